/-
  The program's functions on classes and types give what is said of the list of classes, in whatever memory; they write nothing that was there.
-/
import Derived.Test.YtkggmcbjpmhmcaaDoorImplM
namespace Go.Proofs.YtkggmcbjpmhmcaaDoor
open Go.ChangeShapes Go.WideShapes Go.ChangeAt Go.RowKit

theorem treeJoinImpl (a : Option Addr) (len cap : Nat) (x y : Int) (L : List Cl) (w : World) {D E : Nat → Prop} (h : ClsAt D E w a len L) (ok : clsOk L = true) (hx : -9223372036854775808 ≤ x ∧ x ≤ 9223372036854775807 := by omega) (hy : -9223372036854775808 ≤ y ∧ y ≤ 9223372036854775807 := by omega) :
    Calls Tryd.prog 55 #[.slice a len cap, .int .i64 x, .int .i64 y] w fun e w' => e = .returned (.int .i64 (tyJoinV L x y)) ∧ Below w.heap.size w w' := by
  have HS : Hid (L.length = len) := h.size
  have H : Hid (ClsAt D E w a len L) := h
  clear h
  have hmf : ∀ (fn : Fn) (first cap : Array Value) (w : World), (Instr.makeFunc fn first cap).run Tryd.prog w = .ok (.func fn first cap) w := fun _ _ _ _ => rfl
  have hr := H.out.room
  have e1 := tyB_of (t := x) HS.out ok
  have e2 := tyB_of (t := y) HS.out ok
  cases h1 : tyK len x
  · have HF : Hid (tyJoinV L x y = 0) := by show _ = _; rw [tyJoinV, e1, h1]; rfl
    have HV : Hid (kvOf len x = .nilIface) := by show _ = _; rw [kvOf, h1]; rfl
    clear e1 e2
    go_enter Tryd.func55, Tryd.ntmps55
    go_wp2_with fail
    refine (kindImpl _ _ _ _ _ hr hx.1 hx.2).mono ?_
    rintro e w1 ⟨rfl, rfl⟩
    rw [h1, HV.out]
    go_wp2_with fail
    refine (kindImpl _ _ _ _ _ hr hy.1 hy.2).mono ?_
    rintro e w1 ⟨rfl, rfl⟩
    generalize kvOf len y = v
    generalize tyK len y = b
    go_wp2_with fail
    go_ret
    exact ⟨by rw [HF.out]; rfl, Below.refl _ _⟩
  cases h2 : tyK len y
  · have HF : Hid (tyJoinV L x y = 0) := by show _ = _; rw [tyJoinV, e1, e2, h1, h2]; rfl
    have HV : Hid (kvOf len y = .nilIface) := by show _ = _; rw [kvOf, h2]; rfl
    clear e1 e2
    go_enter Tryd.func55, Tryd.ntmps55
    go_wp2_with fail
    refine (kindImpl _ _ _ _ _ hr hx.1 hx.2).mono ?_
    rintro e w1 ⟨rfl, rfl⟩
    rw [h1]
    generalize kvOf len x = v
    go_wp2_with fail
    refine (kindImpl _ _ _ _ _ hr hy.1 hy.2).mono ?_
    rintro e w1 ⟨rfl, rfl⟩
    rw [h2, HV.out]
    go_wp2_with fail
    go_ret
    exact ⟨by rw [HF.out]; rfl, Below.refl _ _⟩
  · have hx1 : tyB L x = true := by rw [e1, h1]
    have hy1 : tyB L y = true := by rw [e2, h2]
    have HF : Hid (tyJoinV L x y = meetV L x y) := by show _ = _; rw [tyJoinV, hx1, hy1]; rfl
    have hkx : Hid (kvOf len x = kv x) := by show _ = _; rw [kvOf, h1]; rfl
    have hky : Hid (kvOf len y = kv y) := by show _ = _; rw [kvOf, h2]; rfl
    have OK : Hid (clsOk L = true) := ok
    have TX : Hid (Ty L x) := Ty.of hx1
    have TY : Hid (Ty L y) := Ty.of hy1
    have hl5 := (ok_len OK.out).2
    rw [HS.out] at hl5
    have MT : Hid (Ty L (meetV L x y)) := meet_ty OK.out TX.out TY.out
    have MI : Hid (meetV L x y ∈ ks len (8 + len)) := by
      have h1 := MT.out.tyB OK.out
      have h2 := tyB_range h1
      refine ks_in (tyB_K HS.out h1) h2.1 ?_
      have := h2.2.1
      rw [HS.out] at this
      omega
    have hkl := ks_le len (8 + len)
    obtain ⟨tx, vx, ex⟩ := kv_is x
    obtain ⟨ty, vy, ey⟩ := kv_is y
    have NK : Hid (∀ w1 w2 v, Below w.heap.size w w1 → Below w1.heap.size w1 w2 → w2.ownsRow w1.heap.size 98 1 v (ks len (8 + len)).length ((ks len (8 + len)).map kv) →
        Calls Tryd.prog 67 #[v, .func (.func 69) #[.slice a len cap] #[], .iface tx vx, .iface ty vy] w2 fun e w' => e = .returned (.tuple #[kv (meetV L x y), .bool true]) ∧ Below w2.heap.size w2 w') := by
      intro w1 w2 v hb1 hb2 hown
      rw [← ex, ← ey]
      rcases hown.2 with ⟨_, h0⟩ | ⟨g, c2, cur, rfl, _⟩
      · have := List.length_pos_of_mem MI.out
        omega
      · refine nearKindImpl a len cap (ks len (8 + len)).length g c2 x y (ks len (8 + len)) L w2 ((H.out.later hb1).later hb2) OK.out TX.out TY.out rfl (by omega) (fun c hc => ks_ty OK.out HS.out hc) MI.out (fun j c hj => ?_)
        have hjl : j < (ks len (8 + len)).length := (List.getElem?_eq_some_iff.1 hj).1
        rw [hown.cellAt j (by omega), List.getElem?_map, hj]
        rfl
    rw [ex] at hkx
    rw [ey] at hky
    clear hx1 hy1 ex ey e1 e2
    generalize hM : meetV L x y = M at HF MT NK
    clear hM MI
    go_enter Tryd.func55, Tryd.ntmps55
    go_wp2_with fail
    refine (kindImpl _ _ _ _ _ hr hx.1 hx.2).mono ?_
    rintro e w1 ⟨rfl, rfl⟩
    rw [h1, hkx.out]
    go_wp2_with fail
    refine (kindImpl _ _ _ _ _ hr hy.1 hy.2).mono ?_
    rintro e w1 ⟨rfl, rfl⟩
    rw [h2, hky.out]
    go_wp2_with fail
    refine (allKindsImpl _ _ _ _ hl5).mono ?_
    rintro e w2 ⟨v, rfl, hown, hb2⟩
    have hone := own_one0' hown
    have HO : Hid _ := hown
    clear hown
    go_wp2_with fail
    refine (NK.out w w2 v (Below.refl _ _) hb2 HO.out).mono ?_
    rintro e w3 ⟨rfl, hb3⟩
    have B3 : Hid (Below w.heap.size w w3) := hb2.trans (hb3.mono hb2.size)
    clear hb2 hb3
    have hMb := MT.out.high
    rw [HS.out] at hMb
    have hM0 := MT.out.low
    rcases kv_forms M MT.out.kt with rfl | rfl | rfl | ⟨g1, g2⟩ | g1
    · rw [show kv 0 = .iface 108 (.agg #[]) from rfl]
      go_wp2
      go_ret
      exact ⟨by rw [HF.out]; rfl, B3.out.alloc B3.out.size _⟩
    · rw [show kv 1 = .iface 110 (.agg #[]) from rfl]
      go_wp2
      go_ret
      exact ⟨by rw [HF.out]; rfl, B3.out.alloc B3.out.size _⟩
    · rw [show kv 2 = .iface 109 (.agg #[]) from rfl]
      go_wp2
      go_ret
      exact ⟨by rw [HF.out]; rfl, B3.out.alloc B3.out.size _⟩
    · rw [kv_arr M g1 g2]
      go_wp2
      go_ret
      exact ⟨by rw [HF.out]; rfl, B3.out⟩
    · rw [kv_cls M g1]
      obtain ⟨m, hm⟩ : ∃ m, m = M - 8 := ⟨_, rfl⟩
      rw [← hm]
      have HF' : Hid (tyJoinV L x y = 8 + m) := by show _ = _; rw [HF.out]; omega
      have m0 : 0 ≤ m := by omega
      have m1 : m ≤ 5 := by omega
      clear hm HF
      go_wp2
      go_ret
      exact ⟨by rw [HF'.out]; rfl, B3.out⟩

end Go.Proofs.YtkggmcbjpmhmcaaDoor
