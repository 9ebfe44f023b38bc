/-
  To append nothing leaves a slice as it is; what is appended may lie anywhere.
-/
import Derived.Test.YtjeabgkcmfjjlaaInts2
import Derived.Test.YtjeabgkcmfjjlaaClsSpec
import Derived.Deep.AppendLies
import Derived.Deep.RegionLaw
import Derived.Laws.OwnMore
namespace Go.Proofs.Ytjeabgkcmfjjlaa
open Go.ChangeShapes Go.WideShapes Go.ChangeAt Go.RowKit

theorem run_append_empty {P : Program} {w : World} (base : Nat) (t ty e : TypeId) (i : TypeInfo) (size : Nat) (ht : P.underlying t = some (.slice e)) (hi : P.info? e = some i)
    (v : Value) (n : Nat) (xs : List Value) (hown : w.ownsRow base e size v n xs) (sa : Option Addr) (sc : Nat) :
    (Builtin.append_ #[t, t] ty #[v, .slice sa 0 sc]).run P w = .ok v w := by
  rcases hown.2 with ⟨rfl, rfl⟩ | ⟨g, cap, cur, rfl, _, _, hnc, _⟩
  · cases sa <;> simp [Builtin.append_, run_underlying ht, sizeOf, typeInfo, hi, Builtin.lenOf, Builtin.firstCells, loadCells, loadCellsFrom]
  · cases sa <;> simp [Builtin.append_, run_underlying ht, sizeOf, typeInfo, hi, Builtin.lenOf, Builtin.firstCells, hnc, storeCells, loadCells, loadCellsFrom]

theorem step_append_empty {P : Program} {w : World} {ops : Array Oper} {o : Oper} {a : Act} {K : Act → World → Prop} {Q : Exit → Act → World → Prop} {E : Prop} (hgd : o.guard = none) (s x : Operand) (t : TypeId)
    (ho : o.op = .call { callee := .builtin .append, args := #[s, x], argTypes := #[t, t] }) (base : Nat) (e : TypeId) (i : TypeInfo) (size : Nat) (ht : P.underlying t = some (.slice e)) (hi : P.info? e = some i)
    (v : Value) (n : Nat) (xs : List Value) (hs : a.eval s = v) (hown : w.ownsRow base e size v n xs) (sa : Option Addr) (sc : Nat) (hx : a.eval x = .slice sa 0 sc) (h : K (a.put o.dst v) w) :
    if Region.wanted o (yielded ops a.tmps) = true then Oper.wp P o a w K Q else E := by
  have hw : Region.wanted o (yielded ops a.tmps) = true := by simp [Region.wanted, hgd]
  rw [if_pos hw]
  have hr := run_append_empty (P := P) (w := w) base t o.type e i size ht hi v n xs hown sa sc
  unfold Oper.wp execOp
  simp only [ho, resolve, invoke, builtin, Sem.run_bind, Sem.run_pure, Result.andThen_ok, List.map_toArray, List.map_cons, List.map_nil, hs, hx, hr]
  exact h

/-- All fields of a class: those of the one above first. -/
def fldN (L : List Cl) : Nat → Nat → List Int
  | 0, _ => []
  | f + 1, c => if c = 0 then [] else fldN L f (sup L c) ++ (cl L c).2
def fld (L : List Cl) (c : Nat) : List Int := fldN L c c
theorem fldN_more {L : List Cl} (h : clsOk L = true) : ∀ (c f : Nat), c < L.length → c ≤ f → fldN L f c = fldN L c c := by
  intro c
  induction c using Nat.strongRecOn with
  | ind c ih =>
    intro f hl hf
    match c, f, hf with
    | 0, 0, _ => rfl
    | 0, f + 1, _ => simp [fldN]
    | c + 1, f + 1, _ =>
      have hs := (sup_lt h (c + 1) (by omega) hl).1
      rw [fldN, fldN, if_neg (by omega), if_neg (by omega), ih (sup L (c + 1)) hs f (by omega) (by omega), ih (sup L (c + 1)) hs c (by omega) (by omega)]
theorem fld_zero (L : List Cl) : fld L 0 = [] := rfl
theorem fld_step {L : List Cl} (h : clsOk L = true) (c : Nat) (hl : c < L.length) (h1 : 1 ≤ c) : fld L c = fld L (sup L c) ++ (cl L c).2 := by
  have hs := (sup_lt h c h1 hl).1
  unfold fld
  match c, h1 with
  | c + 1, _ => rw [fldN, if_neg (by omega), fldN_more h (sup L (c + 1)) c (by omega) (by omega)]
theorem own_short {L : List Cl} (h : clsOk L = true) (c : Nat) (hl : c < L.length) : (cl L c).2.length ≤ 2 := by
  have h1 := ok_head h c hl
  unfold headB at h1
  split at h1
  · simp at h1; rw [h1.2]; simp
  · split at h1
    · simp at h1; omega
    · simp at h1; omega
theorem fld_short {L : List Cl} (h : clsOk L = true) : ∀ (c : Nat), c < L.length → (fld L c).length ≤ 2 * c := by
  intro c
  induction c using Nat.strongRecOn with
  | ind c ih =>
    intro hl
    by_cases h0 : c = 0
    · subst h0; simp [fld_zero]
    · have hs := (sup_lt h c (by omega) hl).1
      rw [fld_step h c hl (by omega), List.length_append]
      have := ih _ hs (by omega)
      have := own_short h c hl
      omega

theorem own_one0 {w : World} {base : Nat} {e : TypeId} {size n : Nat} {v : Value} {xs : List Value} (h : w.ownsRow base e size v n xs) : v.oneCell' = true := by
  rcases h.2 with ⟨rfl, _⟩ | ⟨g, cap, cur, rfl, _⟩ <;> rfl
theorem own_ge {w : World} {base : Nat} {e : TypeId} {size n : Nat} {v : Value} {xs : List Value} (h : w.ownsRow base e size v n xs) (k : Nat) (hk : some k = v.ownBlock) : base ≤ k := by
  rcases h.2 with ⟨rfl, _⟩ | ⟨g, cap, cur, rfl, hb, _⟩
  · simp [Value.ownBlock] at hk
  · simp [Value.ownBlock] at hk; omega

/-- A list of ints in new memory. -/
def NewInts (w : World) (v : Value) (w' : World) (xs : List Int) : Prop := w'.ownsRow w.heap.size 3 1 v xs.length (xs.map (Value.int .i64)) ∧ Below w.heap.size w w'

theorem info_int3 : (Try.prog.info? 3).map (fun i => (i.zero, i.size, i.bytes)) = some (some (.int .i64 0), 1, 8) := by kernel_rfl

theorem ints_one (xs : List Int) : ∀ u ∈ xs.map (Value.int .i64), u.oneCell' = true := by
  intro u hu
  obtain ⟨x, _, rfl⟩ := List.mem_map.1 hu
  rfl

end Go.Proofs.Ytjeabgkcmfjjlaa
