/-
  The program's ClassesOk, ClassUp and TypeOk give what is said of the list of classes, in whatever memory; they write nothing that was there.
-/
import Derived.Test.YtkggmcbjpmhmcaaDoorTypSpec
import Derived.Stop.Asserts
namespace Go.Proofs.YtkggmcbjpmhmcaaDoor
open Go.ChangeShapes Go.WideShapes Go.ChangeAt Go.RowKit

theorem hasImpl (a : Option Addr) (len cap : Nat) (c : Int) (w : World) (_hr : len ≤ 9223372036854775807) :
    Calls Tryd.prog 74 #[.slice a len cap, .int .i64 c] w fun e w' => e = .returned (.bool (decide (0 ≤ c) && decide (c < len))) ∧ w = w' := by
  by_cases h : 0 ≤ c
  · go_enter Tryd.func74, Tryd.ntmps74
    go_wp2
    go_ret
    exact ⟨by simp [h], rfl⟩
  · go_enter Tryd.func74, Tryd.ntmps74
    go_wp2
    go_ret
    exact ⟨by simp; omega, rfl⟩

/-- One step up, wherever one asks for. -/
theorem up_next {L : List Cl} (h : clsOk L = true) (a b : Nat) (hl : a < L.length) (h1 : 1 ≤ a) (hne : a ≠ b) : up L a b = up L (sup L a) b := by
  by_cases hb : b < a
  · exact up_step h a b hl hb
  · have hs := (sup_lt h a h1 hl).1
    rw [up_stop L a b hb, up_stop L _ b (by omega)]
    have e1 : (a == b) = false := by simp [hne]
    have e2 : (sup L a == b) = false := by simp; omega
    rw [e1, e2]
theorem root_sup {L : List Cl} (h : clsOk L = true) : (cl L 0).1 = -1 := by
  have := ok_head h 0 (by have := ok_len h; omega)
  unfold headB at this
  rw [if_pos rfl] at this
  simp at this
  exact this.1

theorem upImpl (a : Option Addr) (len cap x y : Nat) (L : List Cl) (w : World) {D E : Nat → Prop} (h : ClsAt D E w a len L) (ok : clsOk L = true) (hx : x < len) :
    Calls Tryd.prog 75 #[.slice a len cap, .int .i64 x, .int .i64 y] w fun e w' => e = .returned (.bool (up L x y)) ∧ w = w' := by
  obtain ⟨b, off, rfl, hc⟩ : ∃ b off, a = some ⟨b, off, none⟩ ∧ ∀ i, i < len → w.cell? ⟨b, off + i * 2, none⟩ = some (.int .i64 (cl L i).1) := by
    rcases h.cells with h0 | ⟨b, off, ha, _, hc⟩
    · omega
    · exact ⟨b, off, ha, fun i hi => (hc i hi).1⟩
  have hl := h.size
  have hr := h.room
  have Ok : Hid (clsOk L = true) := ok
  have HL : Hid (L.length = len) := hl
  clear h ok hl
  go_enter Tryd.func75, Tryd.ntmps75
  go_wp2
  go_loop [1] (fun t => (t = .int .i64 (-1) ∧ up L x y = false) ∨ ∃ m : Nat, m < len ∧ t = .int .i64 m ∧ up L m y = up L x y) (fun t => (intOf t + 1).toNat)
  case atStart => exact .inr ⟨x, hx, rfl, rfl⟩
  case round =>
    rcases hrel with ⟨rfl, hu⟩ | ⟨m, hm, rfl, hu⟩
    · have Hu : Hid (up L x y = false) := hu
      clear hu
      go_wp2
      go_ret
      exact ⟨by rw [Hu.out]; rfl, rfl⟩
    · have Hu : Hid (up L m y = up L x y) := hu
      clear hu
      by_cases hlt : m = y
      · subst hlt
        have Us : Hid (up L x m = true) := by show _ = _; rw [← Hu.out, up_stop L m m (by omega)]; simp
        have e1 : ((m : Int) == (m : Int)) = true := by simp
        go_wp2
        go_ret
        exact ⟨by rw [Us.out]; rfl, rfl⟩
      · have e1 : ((m : Int) == (y : Int)) = false := by simp; omega
        have hcm := hc m hm
        by_cases h0 : m = 0
        · subst h0
          have Hr : Hid ((cl L 0).1 = -1) := root_sup Ok.out
          have Us : Hid (up L x y = false) := by
            show _ = _
            rw [← Hu.out, up_stop L 0 y (by omega)]; simp; omega
          rw [Hr.out] at hcm
          simp only [Nat.zero_mul, Nat.add_zero] at hcm
          clear hc
          go_wp2
          exact ⟨.inl ⟨rfl, Us.out⟩, by simp [intOf]⟩
        · have hs := sup_lt Ok.out m (by omega) (by rw [HL.out]; exact hm)
          have hs1 := hs.1
          have Us : Hid (up L m y = up L (sup L m) y) := up_next Ok.out m y (by rw [HL.out]; exact hm) (by omega) hlt
          rw [hs.2] at hcm
          clear hs hc
          go_wp2
          exact ⟨.inr ⟨sup L m, by omega, rfl, by rw [← Us.out]; exact Hu.out⟩, by simp [intOf]; omega⟩

/-- A type that is one, as the program has it. -/
def kv (t : Int) : Value :=
  if t = 0 then .iface 108 (.agg #[]) else if t = 1 then .iface 110 (.agg #[]) else if t = 2 then .iface 109 (.agg #[]) else
  if t < 8 then .iface 111 (.int .i64 t) else .iface 112 (.int .i64 (t - 8))
def tyK (n : Nat) (t : Int) : Bool := t == 0 || (t == 2 || fieldB n t)
def kvOf (n : Nat) (t : Int) : Value := if tyK n t then kv t else .nilIface

theorem kindImpl (a : Option Addr) (len cap : Nat) (t : Int) (w : World) (hr : len ≤ 9223372036854775807) (t0 : -9223372036854775808 ≤ t) (t1 : t ≤ 9223372036854775807) :
    Calls Tryd.prog 66 #[.slice a len cap, .int .i64 t] w fun e w' => e = .returned (.tuple #[kvOf len t, .bool (tyK len t)]) ∧ w = w' := by
  by_cases h0 : t = 0
  · subst h0
    go_enter Tryd.func66, Tryd.ntmps66
    go_wp2
    go_ret2
    exact ⟨by simp [kvOf, tyK, kv], rfl⟩
  have e0 : (t == 0) = false := by simp [h0]
  by_cases h1 : t = 1
  · subst h1
    go_enter Tryd.func66, Tryd.ntmps66
    go_wp2
    go_ret2
    exact ⟨by simp [kvOf, tyK, kv, fieldB], rfl⟩
  have e1 : (t == 1) = false := by simp [h1]
  by_cases h2 : t = 2
  · subst h2
    go_enter Tryd.func66, Tryd.ntmps66
    go_wp2
    go_ret2
    exact ⟨by simp [kvOf, tyK, kv], rfl⟩
  have e2 : (t == 2) = false := by simp [h2]
  by_cases h3 : t = 3
  · subst h3
    go_enter Tryd.func66, Tryd.ntmps66
    go_wp2
    go_ret2
    exact ⟨by simp [kvOf, tyK, kv, fieldB], rfl⟩
  have e3 : (t == 3) = false := by simp [h3]
  by_cases h4 : t = 4
  · subst h4
    go_enter Tryd.func66, Tryd.ntmps66
    go_wp2
    go_ret2
    exact ⟨by simp [kvOf, tyK, kv, fieldB], rfl⟩
  have e4 : (t == 4) = false := by simp [h4]
  by_cases h8 : 8 ≤ t
  · by_cases hl : t - 8 < len
    · have HF : Hid (kvOf len t = .iface 112 (.int .i64 (t - 8)) ∧ tyK len t = true) := by
        have : tyK len t = true := by simp [tyK, fieldB]; omega
        refine ⟨?_, this⟩
        rw [kvOf, this, if_pos rfl, kv, if_neg h0, if_neg h1, if_neg h2, if_neg (by omega)]
      have hB : (decide (0 ≤ t - 8) && decide (t - 8 < len)) = true := by simp; omega
      go_enter Tryd.func66, Tryd.ntmps66
      go_wp2_with (go_at_call 74; refine (hasImpl _ _ _ _ _ hr).mono ?_; rintro e w' ⟨rfl, rfl⟩; rw [hB])
      go_ret2
      exact ⟨by rw [HF.out.1, HF.out.2]; rfl, rfl⟩
    · have HF : Hid (kvOf len t = .nilIface ∧ tyK len t = false) := by
        have : tyK len t = false := by simp [tyK, fieldB]; omega
        refine ⟨?_, this⟩
        rw [kvOf, this]; rfl
      have hB : (decide (0 ≤ t - 8) && decide (t - 8 < len)) = false := by simp; omega
      go_enter Tryd.func66, Tryd.ntmps66
      go_wp2_with (go_at_call 74; refine (hasImpl _ _ _ _ _ hr).mono ?_; rintro e w' ⟨rfl, rfl⟩; rw [hB])
      go_ret2
      exact ⟨by rw [HF.out.1, HF.out.2]; rfl, rfl⟩
  · have HF : Hid (kvOf len t = .nilIface ∧ tyK len t = false) := by
      have : tyK len t = false := by simp [tyK, fieldB]; omega
      refine ⟨?_, this⟩
      rw [kvOf, this]; rfl
    go_enter Tryd.func66, Tryd.ntmps66
    go_wp2
    go_ret2
    exact ⟨by rw [HF.out.1, HF.out.2]; rfl, rfl⟩

/-- 'x.(T)' at a type T that is no interface type: the value's type is T, or it isn't. -/
theorem ta_same {P : Program} {t : TypeId} {d : TypeDesc} (hu : P.underlying t = some d) (hd : ∀ ms, d ≠ .interface ms) (v : Value) (xT : TypeId) (w : World) :
    (Instr.typeAssert (.iface t v) xT t true).run P w = .ok (.tuple #[v, .bool true]) w := by
  cases d <;> simp [Instr.typeAssert, run_underlying hu]
  exact absurd rfl (hd _)
theorem ta_other {P : Program} {t u : TypeId} {d : TypeDesc} {z : Value} (hu : P.underlying u = some d) (hd : ∀ ms, d ≠ .interface ms) (hne : t ≠ u) (hz : (P.info? u).map (·.zero) = some (some z)) (v : Value) (xT : TypeId) (w : World) :
    (Instr.typeAssert (.iface t v) xT u true).run P w = .ok (.tuple #[z, .bool false]) w := by
  obtain ⟨j, hj, hz'⟩ := Option.map_eq_some_iff.1 hz
  cases d <;> simp [Instr.typeAssert, run_underlying hu, hne, zeroValue, typeInfo, hj, hz']
  exact absurd rfl (hd _)
theorem ta_no_no : ∀ v xT w, (Instr.typeAssert (.iface 108 v) xT 108 true).run Tryd.prog w = .ok (.tuple #[v, .bool true]) w := ta_same Tryd.underlying108 (by intro ms h; cases h)
theorem ta_no_null : ∀ v xT w, (Instr.typeAssert (.iface 108 v) xT 109 true).run Tryd.prog w = .ok (.tuple #[.agg #[], .bool false]) w := ta_other Tryd.underlying109 (by intro ms h; cases h) (by decide) (by kernel_rfl)
theorem ta_no_array : ∀ v xT w, (Instr.typeAssert (.iface 108 v) xT 111 true).run Tryd.prog w = .ok (.tuple #[.int .i64 0, .bool false]) w := ta_other Tryd.underlying111 (by intro ms h; cases h) (by decide) (by kernel_rfl)
theorem ta_no_class : ∀ v xT w, (Instr.typeAssert (.iface 108 v) xT 112 true).run Tryd.prog w = .ok (.tuple #[.int .i64 0, .bool false]) w := ta_other Tryd.underlying112 (by intro ms h; cases h) (by decide) (by kernel_rfl)
theorem ta_word_no : ∀ v xT w, (Instr.typeAssert (.iface 110 v) xT 108 true).run Tryd.prog w = .ok (.tuple #[.agg #[], .bool false]) w := ta_other Tryd.underlying108 (by intro ms h; cases h) (by decide) (by kernel_rfl)
theorem ta_word_null : ∀ v xT w, (Instr.typeAssert (.iface 110 v) xT 109 true).run Tryd.prog w = .ok (.tuple #[.agg #[], .bool false]) w := ta_other Tryd.underlying109 (by intro ms h; cases h) (by decide) (by kernel_rfl)
theorem ta_word_array : ∀ v xT w, (Instr.typeAssert (.iface 110 v) xT 111 true).run Tryd.prog w = .ok (.tuple #[.int .i64 0, .bool false]) w := ta_other Tryd.underlying111 (by intro ms h; cases h) (by decide) (by kernel_rfl)
theorem ta_word_class : ∀ v xT w, (Instr.typeAssert (.iface 110 v) xT 112 true).run Tryd.prog w = .ok (.tuple #[.int .i64 0, .bool false]) w := ta_other Tryd.underlying112 (by intro ms h; cases h) (by decide) (by kernel_rfl)
theorem ta_null_no : ∀ v xT w, (Instr.typeAssert (.iface 109 v) xT 108 true).run Tryd.prog w = .ok (.tuple #[.agg #[], .bool false]) w := ta_other Tryd.underlying108 (by intro ms h; cases h) (by decide) (by kernel_rfl)
theorem ta_null_null : ∀ v xT w, (Instr.typeAssert (.iface 109 v) xT 109 true).run Tryd.prog w = .ok (.tuple #[v, .bool true]) w := ta_same Tryd.underlying109 (by intro ms h; cases h)
theorem ta_null_array : ∀ v xT w, (Instr.typeAssert (.iface 109 v) xT 111 true).run Tryd.prog w = .ok (.tuple #[.int .i64 0, .bool false]) w := ta_other Tryd.underlying111 (by intro ms h; cases h) (by decide) (by kernel_rfl)
theorem ta_null_class : ∀ v xT w, (Instr.typeAssert (.iface 109 v) xT 112 true).run Tryd.prog w = .ok (.tuple #[.int .i64 0, .bool false]) w := ta_other Tryd.underlying112 (by intro ms h; cases h) (by decide) (by kernel_rfl)
theorem ta_array_no : ∀ v xT w, (Instr.typeAssert (.iface 111 v) xT 108 true).run Tryd.prog w = .ok (.tuple #[.agg #[], .bool false]) w := ta_other Tryd.underlying108 (by intro ms h; cases h) (by decide) (by kernel_rfl)
theorem ta_array_null : ∀ v xT w, (Instr.typeAssert (.iface 111 v) xT 109 true).run Tryd.prog w = .ok (.tuple #[.agg #[], .bool false]) w := ta_other Tryd.underlying109 (by intro ms h; cases h) (by decide) (by kernel_rfl)
theorem ta_array_array : ∀ v xT w, (Instr.typeAssert (.iface 111 v) xT 111 true).run Tryd.prog w = .ok (.tuple #[v, .bool true]) w := ta_same Tryd.underlying111 (by intro ms h; cases h)
theorem ta_array_class : ∀ v xT w, (Instr.typeAssert (.iface 111 v) xT 112 true).run Tryd.prog w = .ok (.tuple #[.int .i64 0, .bool false]) w := ta_other Tryd.underlying112 (by intro ms h; cases h) (by decide) (by kernel_rfl)
theorem ta_class_no : ∀ v xT w, (Instr.typeAssert (.iface 112 v) xT 108 true).run Tryd.prog w = .ok (.tuple #[.agg #[], .bool false]) w := ta_other Tryd.underlying108 (by intro ms h; cases h) (by decide) (by kernel_rfl)
theorem ta_class_null : ∀ v xT w, (Instr.typeAssert (.iface 112 v) xT 109 true).run Tryd.prog w = .ok (.tuple #[.agg #[], .bool false]) w := ta_other Tryd.underlying109 (by intro ms h; cases h) (by decide) (by kernel_rfl)
theorem ta_class_array : ∀ v xT w, (Instr.typeAssert (.iface 112 v) xT 111 true).run Tryd.prog w = .ok (.tuple #[.int .i64 0, .bool false]) w := ta_other Tryd.underlying111 (by intro ms h; cases h) (by decide) (by kernel_rfl)
theorem ta_class_class : ∀ v xT w, (Instr.typeAssert (.iface 112 v) xT 112 true).run Tryd.prog w = .ok (.tuple #[v, .bool true]) w := ta_same Tryd.underlying112 (by intro ms h; cases h)

end Go.Proofs.YtkggmcbjpmhmcaaDoor
