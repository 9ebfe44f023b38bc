/-
  Whether what is in a thing is ok: the specification says so; it writes nothing that was there.
-/
import Derived.Test.YtjeabgkcmfjjlaaMemSd
namespace Go.Proofs.Ytjeabgkcmfjjlaa
open Go.ChangeShapes Go.WideShapes Go.ChangeAt Go.RowKit
set_option linter.unusedVariables false

def okK (m : Mm) (T : List Th) (t : Th) (k : Nat) : Bool := mayV T (t.2.2.getD k 0) (m.1.getD (plc t k) 0) && (!needV m t k (m.1.getD (plc t k) 0) || m.2.2.2.2.getD (cdN m (plc t k)) false)
theorem all_both {p q : Nat → Bool} : ∀ (n : Nat), ((List.range n).all p && (List.range n).all q) = (List.range n).all (fun k => p k && q k)
  | 0 => rfl
  | n + 1 => by
    rw [List.range_succ, List.all_append, List.all_append, List.all_append, ← all_both n]
    simp only [List.all_cons, List.all_nil, Bool.and_true]
    cases (List.range n).all p <;> cases (List.range n).all q <;> cases p n <;> cases q n <;> rfl
theorem vc_all (m : Mm) (T : List Th) (t : Th) : (valB' m T t && crdB m t) = (List.range t.2.2.length).all (okK m T t) := all_both _
theorem stB_plN (T : List Th) (j : Nat) : stB (plN T) j = isAt T ((j : Int) + 1) := by
  unfold stB plN isAt
  rw [List.any_map]
  congr 1
  funext t
  simp only [Function.comp]
  rw [Bool.eq_iff_iff]
  simp only [beq_iff_eq]
  omega
theorem led_eq {T : List Th} {n : Nat} (h : ∀ t ∈ T, 1 ≤ t.1 ∧ t.1 ≤ n) (v : Int) : (v == 0 || (inI v 1 n && stB (plN T) (v.toNat - 1))) = ledV T v := by
  unfold ledV
  congr 1
  cases hq : inI v 1 n
  · cases ha : isAt T v
    · rfl
    · obtain ⟨t, ht, rfl⟩ := isAt_iff.1 ha
      have := inI_iff.2 (h t ht)
      rw [this] at hq; cases hq
  · have := inI_iff.1 hq
    rw [stB_plN, show ((v.toNat - 1 : Nat) : Int) + 1 = v by omega]
    rfl
theorem rng_on' {p : Nat → Bool} (k : Nat) : (List.range (k + 1)).all p = ((List.range k).all p && p k) := by
  rw [List.range_succ, List.all_append]; simp
theorem rng_no' {p : Nat → Bool} {n k : Nat} (hk : k < n) (h : p k = false) : (List.range n).all p = false := by
  rw [List.all_eq_false]; exact ⟨k, List.mem_range.2 hk, by simp [h]⟩

end Go.Proofs.Ytjeabgkcmfjjlaa
