/-
  The specification's ClassUp, ClassJoin, TypeOk, TypeIn and TypeJoin give what is said of the list of classes, in whatever memory; they write nothing that was there.
-/
import Derived.Test.YthdlccadcadopaaGreatClsSpec
namespace Go.Proofs.YthdlccadcadopaaGreat
open Go.ChangeShapes Go.WideShapes Go.ChangeAt Go.RowKit

theorem isB_nat {L : List Cl} {c : Int} (h : isB L c = true) : ∃ k : Nat, c = k ∧ k < L.length ∧ clsOk L = true := by
  unfold isB at h
  simp at h
  have := ok_len h.1
  exact ⟨c.toNat, by omega, by omega, h.1⟩

theorem typeOkSpec (a : Option Addr) (len cap : Nat) (t : Int) (L : List Cl) (w : World) {D E : Nat → Prop} (h : ClsAt D E w a len L) :
    Calls Tryz.prog 138 #[.slice a len cap, .int .i64 t] w fun e w' => e = .returned (.bool (tyB L t)) ∧ Below w.heap.size w w' := by
  have hl5 : Hid (clsOk L = true → len ≤ 1000000000000000) := fun ok => by have := ok_len ok; rw [h.size] at this; omega
  have HF : Hid (tyB L t = (clsOk L && (t == 0 || (t == 2 || fieldB len t)))) := by show _ = _; rw [tyB, h.size]
  have H : Hid (ClsAt D E w a len L) := h
  clear h
  cases hx : clsOk L
  · go_enter Tryz.func138, Tryz.ntmps138
    go_wp2_with fail
    refine (okSpec _ _ _ L _ H.out).mono ?_
    rintro e w1 ⟨rfl, hb1⟩
    rw [hx]
    go_wp2_with fail
    go_ret
    exact ⟨by rw [HF.out, hx]; rfl, hb1⟩
  · cases h0 : (t == 0)
    · cases h2 : (t == 2)
      · go_enter Tryz.func138, Tryz.ntmps138
        go_wp2_with fail
        refine (okSpec _ _ _ L _ H.out).mono ?_
        rintro e w1 ⟨rfl, hb1⟩
        rw [hx]
        go_wp2_with fail
        refine (fieldSpec _ _ _ _ _ (hl5.out hx)).mono ?_
        rintro e w2 ⟨rfl, rfl⟩
        go_wp2_with fail
        go_ret
        exact ⟨by rw [HF.out, hx, h0, h2]; rfl, hb1⟩
      · go_enter Tryz.func138, Tryz.ntmps138
        go_wp2_with fail
        refine (okSpec _ _ _ L _ H.out).mono ?_
        rintro e w1 ⟨rfl, hb1⟩
        rw [hx]
        go_wp2_with fail
        go_ret
        exact ⟨by rw [HF.out, hx, h0, h2]; rfl, hb1⟩
    · go_enter Tryz.func138, Tryz.ntmps138
      go_wp2_with fail
      refine (okSpec _ _ _ L _ H.out).mono ?_
      rintro e w1 ⟨rfl, hb1⟩
      rw [hx]
      go_wp2_with fail
      go_ret
      exact ⟨by rw [HF.out, hx, h0]; rfl, hb1⟩

end Go.Proofs.YthdlccadcadopaaGreat
