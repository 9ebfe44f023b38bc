/-
  The program's ClassesOk, ClassUp and TypeOk give what is said of the list of classes, in whatever memory; they write nothing that was there.
-/
import Derived.Test.YtjbmcdekhhbiaaaGreatTypSpec
import Derived.Stop.Asserts
namespace Go.Proofs.YtjbmcdekhhbiaaaGreat
open Go.ChangeShapes Go.WideShapes Go.ChangeAt Go.RowKit

theorem hasImpl (a : Option Addr) (len cap : Nat) (c : Int) (w : World) (_hr : len ≤ 9223372036854775807) :
    Calls Tryz.prog 72 #[.slice a len cap, .int .i64 c] w fun e w' => e = .returned (.bool (decide (0 ≤ c) && decide (c < len))) ∧ w = w' := by
  by_cases h : 0 ≤ c
  · go_enter Tryz.func72, Tryz.ntmps72
    go_wp2
    go_ret
    exact ⟨by simp [h], rfl⟩
  · go_enter Tryz.func72, Tryz.ntmps72
    go_wp2
    go_ret
    exact ⟨by simp; omega, rfl⟩

/-- One step up, wherever one asks for. -/
theorem up_next {L : List Cl} (h : clsOk L = true) (a b : Nat) (hl : a < L.length) (h1 : 1 ≤ a) (hne : a ≠ b) : up L a b = up L (sup L a) b := by
  by_cases hb : b < a
  · exact up_step h a b hl hb
  · have hs := (sup_lt h a h1 hl).1
    rw [up_stop L a b hb, up_stop L _ b (by omega)]
    have e1 : (a == b) = false := by simp [hne]
    have e2 : (sup L a == b) = false := by simp; omega
    rw [e1, e2]
theorem root_sup {L : List Cl} (h : clsOk L = true) : (cl L 0).1 = -1 := by
  have := ok_head h 0 (by have := ok_len h; omega)
  unfold headB at this
  rw [if_pos rfl] at this
  simp at this
  exact this.1

/-- A type that is one, as the program has it. -/
def kv (t : Int) : Value :=
  if t = 0 then .iface 153 (.agg #[]) else if t = 1 then .iface 155 (.agg #[]) else if t = 2 then .iface 154 (.agg #[]) else
  if t < 8 then .iface 156 (.int .i64 t) else .iface 157 (.int .i64 (t - 8))
def tyK (n : Nat) (t : Int) : Bool := t == 0 || (t == 2 || fieldB n t)
def kvOf (n : Nat) (t : Int) : Value := if tyK n t then kv t else .nilIface

theorem kindImpl (a : Option Addr) (len cap : Nat) (t : Int) (w : World) (hr : len ≤ 9223372036854775807) (t0 : -9223372036854775808 ≤ t) (t1 : t ≤ 9223372036854775807) :
    Calls Tryz.prog 135 #[.slice a len cap, .int .i64 t] w fun e w' => e = .returned (.tuple #[kvOf len t, .bool (tyK len t)]) ∧ w = w' := by
  by_cases h0 : t = 0
  · subst h0
    go_enter Tryz.func135, Tryz.ntmps135
    go_wp2
    go_ret2
    exact ⟨by simp [kvOf, tyK, kv], rfl⟩
  have e0 : (t == 0) = false := by simp [h0]
  by_cases h1 : t = 1
  · subst h1
    go_enter Tryz.func135, Tryz.ntmps135
    go_wp2
    go_ret2
    exact ⟨by simp [kvOf, tyK, kv, fieldB], rfl⟩
  have e1 : (t == 1) = false := by simp [h1]
  by_cases h2 : t = 2
  · subst h2
    go_enter Tryz.func135, Tryz.ntmps135
    go_wp2
    go_ret2
    exact ⟨by simp [kvOf, tyK, kv], rfl⟩
  have e2 : (t == 2) = false := by simp [h2]
  by_cases h3 : t = 3
  · subst h3
    go_enter Tryz.func135, Tryz.ntmps135
    go_wp2
    go_ret2
    exact ⟨by simp [kvOf, tyK, kv, fieldB], rfl⟩
  have e3 : (t == 3) = false := by simp [h3]
  by_cases h4 : t = 4
  · subst h4
    go_enter Tryz.func135, Tryz.ntmps135
    go_wp2
    go_ret2
    exact ⟨by simp [kvOf, tyK, kv, fieldB], rfl⟩
  have e4 : (t == 4) = false := by simp [h4]
  by_cases h8 : 8 ≤ t
  · by_cases hl : t - 8 < len
    · have HF : Hid (kvOf len t = .iface 157 (.int .i64 (t - 8)) ∧ tyK len t = true) := by
        have : tyK len t = true := by simp [tyK, fieldB]; omega
        refine ⟨?_, this⟩
        rw [kvOf, this, if_pos rfl, kv, if_neg h0, if_neg h1, if_neg h2, if_neg (by omega)]
      have hB : (decide (0 ≤ t - 8) && decide (t - 8 < len)) = true := by simp; omega
      go_enter Tryz.func135, Tryz.ntmps135
      go_wp2_with (go_at_call 72; refine (hasImpl _ _ _ _ _ hr).mono ?_; rintro e w' ⟨rfl, rfl⟩; rw [hB])
      go_ret2
      exact ⟨by rw [HF.out.1, HF.out.2]; rfl, rfl⟩
    · have HF : Hid (kvOf len t = .nilIface ∧ tyK len t = false) := by
        have : tyK len t = false := by simp [tyK, fieldB]; omega
        refine ⟨?_, this⟩
        rw [kvOf, this]; rfl
      have hB : (decide (0 ≤ t - 8) && decide (t - 8 < len)) = false := by simp; omega
      go_enter Tryz.func135, Tryz.ntmps135
      go_wp2_with (go_at_call 72; refine (hasImpl _ _ _ _ _ hr).mono ?_; rintro e w' ⟨rfl, rfl⟩; rw [hB])
      go_ret2
      exact ⟨by rw [HF.out.1, HF.out.2]; rfl, rfl⟩
  · have HF : Hid (kvOf len t = .nilIface ∧ tyK len t = false) := by
      have : tyK len t = false := by simp [tyK, fieldB]; omega
      refine ⟨?_, this⟩
      rw [kvOf, this]; rfl
    go_enter Tryz.func135, Tryz.ntmps135
    go_wp2
    go_ret2
    exact ⟨by rw [HF.out.1, HF.out.2]; rfl, rfl⟩

/-- 'x.(T)' at a type T that is no interface type: the value's type is T, or it isn't. -/
theorem ta_same {P : Program} {t : TypeId} {d : TypeDesc} (hu : P.underlying t = some d) (hd : ∀ ms, d ≠ .interface ms) (v : Value) (xT : TypeId) (w : World) :
    (Instr.typeAssert (.iface t v) xT t true).run P w = .ok (.tuple #[v, .bool true]) w := by
  cases d <;> simp [Instr.typeAssert, run_underlying hu]
  exact absurd rfl (hd _)
theorem ta_other {P : Program} {t u : TypeId} {d : TypeDesc} {z : Value} (hu : P.underlying u = some d) (hd : ∀ ms, d ≠ .interface ms) (hne : t ≠ u) (hz : (P.info? u).map (·.zero) = some (some z)) (v : Value) (xT : TypeId) (w : World) :
    (Instr.typeAssert (.iface t v) xT u true).run P w = .ok (.tuple #[z, .bool false]) w := by
  obtain ⟨j, hj, hz'⟩ := Option.map_eq_some_iff.1 hz
  cases d <;> simp [Instr.typeAssert, run_underlying hu, hne, zeroValue, typeInfo, hj, hz']
  exact absurd rfl (hd _)
theorem ta_no_no : ∀ v xT w, (Instr.typeAssert (.iface 153 v) xT 153 true).run Tryz.prog w = .ok (.tuple #[v, .bool true]) w := ta_same Tryz.underlying153 (by intro ms h; cases h)
theorem ta_no_null : ∀ v xT w, (Instr.typeAssert (.iface 153 v) xT 154 true).run Tryz.prog w = .ok (.tuple #[.agg #[], .bool false]) w := ta_other Tryz.underlying154 (by intro ms h; cases h) (by decide) (by kernel_rfl)
theorem ta_no_array : ∀ v xT w, (Instr.typeAssert (.iface 153 v) xT 156 true).run Tryz.prog w = .ok (.tuple #[.int .i64 0, .bool false]) w := ta_other Tryz.underlying156 (by intro ms h; cases h) (by decide) (by kernel_rfl)
theorem ta_no_class : ∀ v xT w, (Instr.typeAssert (.iface 153 v) xT 157 true).run Tryz.prog w = .ok (.tuple #[.int .i64 0, .bool false]) w := ta_other Tryz.underlying157 (by intro ms h; cases h) (by decide) (by kernel_rfl)
theorem ta_word_no : ∀ v xT w, (Instr.typeAssert (.iface 155 v) xT 153 true).run Tryz.prog w = .ok (.tuple #[.agg #[], .bool false]) w := ta_other Tryz.underlying153 (by intro ms h; cases h) (by decide) (by kernel_rfl)
theorem ta_word_null : ∀ v xT w, (Instr.typeAssert (.iface 155 v) xT 154 true).run Tryz.prog w = .ok (.tuple #[.agg #[], .bool false]) w := ta_other Tryz.underlying154 (by intro ms h; cases h) (by decide) (by kernel_rfl)
theorem ta_word_array : ∀ v xT w, (Instr.typeAssert (.iface 155 v) xT 156 true).run Tryz.prog w = .ok (.tuple #[.int .i64 0, .bool false]) w := ta_other Tryz.underlying156 (by intro ms h; cases h) (by decide) (by kernel_rfl)
theorem ta_word_class : ∀ v xT w, (Instr.typeAssert (.iface 155 v) xT 157 true).run Tryz.prog w = .ok (.tuple #[.int .i64 0, .bool false]) w := ta_other Tryz.underlying157 (by intro ms h; cases h) (by decide) (by kernel_rfl)
theorem ta_null_no : ∀ v xT w, (Instr.typeAssert (.iface 154 v) xT 153 true).run Tryz.prog w = .ok (.tuple #[.agg #[], .bool false]) w := ta_other Tryz.underlying153 (by intro ms h; cases h) (by decide) (by kernel_rfl)
theorem ta_null_null : ∀ v xT w, (Instr.typeAssert (.iface 154 v) xT 154 true).run Tryz.prog w = .ok (.tuple #[v, .bool true]) w := ta_same Tryz.underlying154 (by intro ms h; cases h)
theorem ta_null_array : ∀ v xT w, (Instr.typeAssert (.iface 154 v) xT 156 true).run Tryz.prog w = .ok (.tuple #[.int .i64 0, .bool false]) w := ta_other Tryz.underlying156 (by intro ms h; cases h) (by decide) (by kernel_rfl)
theorem ta_null_class : ∀ v xT w, (Instr.typeAssert (.iface 154 v) xT 157 true).run Tryz.prog w = .ok (.tuple #[.int .i64 0, .bool false]) w := ta_other Tryz.underlying157 (by intro ms h; cases h) (by decide) (by kernel_rfl)
theorem ta_array_no : ∀ v xT w, (Instr.typeAssert (.iface 156 v) xT 153 true).run Tryz.prog w = .ok (.tuple #[.agg #[], .bool false]) w := ta_other Tryz.underlying153 (by intro ms h; cases h) (by decide) (by kernel_rfl)
theorem ta_array_null : ∀ v xT w, (Instr.typeAssert (.iface 156 v) xT 154 true).run Tryz.prog w = .ok (.tuple #[.agg #[], .bool false]) w := ta_other Tryz.underlying154 (by intro ms h; cases h) (by decide) (by kernel_rfl)
theorem ta_array_array : ∀ v xT w, (Instr.typeAssert (.iface 156 v) xT 156 true).run Tryz.prog w = .ok (.tuple #[v, .bool true]) w := ta_same Tryz.underlying156 (by intro ms h; cases h)
theorem ta_array_class : ∀ v xT w, (Instr.typeAssert (.iface 156 v) xT 157 true).run Tryz.prog w = .ok (.tuple #[.int .i64 0, .bool false]) w := ta_other Tryz.underlying157 (by intro ms h; cases h) (by decide) (by kernel_rfl)
theorem ta_class_no : ∀ v xT w, (Instr.typeAssert (.iface 157 v) xT 153 true).run Tryz.prog w = .ok (.tuple #[.agg #[], .bool false]) w := ta_other Tryz.underlying153 (by intro ms h; cases h) (by decide) (by kernel_rfl)
theorem ta_class_null : ∀ v xT w, (Instr.typeAssert (.iface 157 v) xT 154 true).run Tryz.prog w = .ok (.tuple #[.agg #[], .bool false]) w := ta_other Tryz.underlying154 (by intro ms h; cases h) (by decide) (by kernel_rfl)
theorem ta_class_array : ∀ v xT w, (Instr.typeAssert (.iface 157 v) xT 156 true).run Tryz.prog w = .ok (.tuple #[.int .i64 0, .bool false]) w := ta_other Tryz.underlying156 (by intro ms h; cases h) (by decide) (by kernel_rfl)
theorem ta_class_class : ∀ v xT w, (Instr.typeAssert (.iface 157 v) xT 157 true).run Tryz.prog w = .ok (.tuple #[v, .bool true]) w := ta_same Tryz.underlying157 (by intro ms h; cases h)

end Go.Proofs.YtjbmcdekhhbiaaaGreat
