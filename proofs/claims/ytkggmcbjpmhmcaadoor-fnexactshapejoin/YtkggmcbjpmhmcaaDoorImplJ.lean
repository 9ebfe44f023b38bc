/-
  The program's TypeJoin gives what is said of the list of classes, in whatever memory; it writes nothing that was there.
-/
import Derived.Test.YtkggmcbjpmhmcaaDoorImplN
import Derived.Laws.AppendOwn
import Derived.Laws.OwnMore
namespace Go.Proofs.YtkggmcbjpmhmcaaDoor
open Go.ChangeShapes Go.WideShapes Go.ChangeAt Go.RowKit

theorem own_one0' {w : World} {base : Nat} {e : TypeId} {size n : Nat} {v : Value} {xs : List Value} (h : w.ownsRow base e size v n xs) : v.oneCell' = true := by
  rcases h.2 with ⟨rfl, _⟩ | ⟨g, cap, cur, rfl, _⟩ <;> rfl
/-- The types that there are, below a number. -/
def ks (len k : Nat) : List Int := ((List.range k).map Int.ofNat).filter (tyK len)
theorem ks_succ (len k : Nat) : ks len (k + 1) = ks len k ++ (if tyK len (k : Int) then [(k : Int)] else []) := by
  unfold ks
  rw [List.range_succ, List.map_append, List.filter_append]
  congr 1
  simp only [List.map_cons, List.map_nil, List.filter_cons, List.filter_nil]
  rfl
theorem ks_le (len k : Nat) : (ks len k).length ≤ k := by
  unfold ks
  refine Nat.le_trans (List.length_filter_le _ _) ?_
  simp
theorem ks_mem {len k : Nat} {t : Int} (h : t ∈ ks len k) : tyK len t = true ∧ 0 ≤ t ∧ t < k := by
  unfold ks at h
  rw [List.mem_filter, List.mem_map] at h
  obtain ⟨⟨i, hi, rfl⟩, ht⟩ := h
  rw [List.mem_range] at hi
  exact ⟨ht, Int.natCast_nonneg i, by show (i : Int) < k; omega⟩
theorem ks_in {len k : Nat} {t : Int} (ht : tyK len t = true) (h0 : 0 ≤ t) (h1 : t < k) : t ∈ ks len k := by
  unfold ks
  rw [List.mem_filter, List.mem_map]
  exact ⟨⟨t.toNat, List.mem_range.2 (by omega), by show ((t.toNat : Nat) : Int) = t; omega⟩, ht⟩

theorem info_kind : (Tryd.prog.info? 98).map (fun i => (i.zero, i.size, i.bytes)) = some (some .nilIface, 1, 16) := by kernel_rfl

theorem kv_one (xs : List Int) : ∀ u ∈ xs.map kv, u.oneCell' = true := by
  intro u hu
  obtain ⟨x, _, rfl⟩ := List.mem_map.1 hu
  obtain ⟨t, v, e⟩ := kv_is x
  rw [e]; rfl

theorem grown_below {base : Nat} {w wr w2 : World} {e : TypeId} {v : Value} {n : Nat} {xs : List Value} {o : Obj} (hb : Below base w wr) (hs : base ≤ wr.heap.size) (hown : wr.ownsRow base e 1 v n xs) (hg : (wr.alloc o).grownBy w2 v.ownBlock) : Below base w w2 := by
  have h1 : Below base w (wr.alloc o) := hb.alloc hs o
  exact h1.grown hg (by simp; omega) (fun k e => by
    rcases hown.2 with ⟨rfl, _⟩ | ⟨g, cap, cur, rfl, hb', _⟩
    · simp [Value.ownBlock] at e
    · simp [Value.ownBlock] at e; omega)

set_option maxRecDepth 100000 in
set_option maxHeartbeats 1000000 in
theorem allKindsImpl (a : Option Addr) (len cap : Nat) (w : World) (hlen : len ≤ 5) :
    Calls Tryd.prog 68 #[.slice a len cap] w fun e w' => ∃ v, e = .returned v ∧ w'.ownsRow w.heap.size 98 1 v (ks len (8 + len)).length ((ks len (8 + len)).map kv) ∧ Below w.heap.size w w' := by
  obtain ⟨i0, hi0, hz0, hz1, hz2⟩ := info_parts info_kind
  go_enter Tryd.func68, Tryd.ntmps68
  go_wp2_with fail
  go_loopw [3, 10] (fun s t wr => ∃ k : Nat, k ≤ 8 + len ∧ t = .int .i64 k ∧ wr.ownsRow w.heap.size 98 1 s (ks len k).length ((ks len k).map kv) ∧ Below w.heap.size w wr) (fun _ t _ => 8 + len - (intOf t).toNat)
  case atStart => exact ⟨0, Nat.zero_le _, rfl, World.ownsRow_nil _ _ _ _, Below.refl _ _⟩
  case round =>
    obtain ⟨k, hk, rfl, hown, hb⟩ := hrel
    have HO : Hid (wr.ownsRow w.heap.size 98 1 u3 (ks len k).length ((ks len k).map kv)) := hown
    have HB : Hid (Below w.heap.size w wr) := hb
    have hsz := hb.size
    have hkl := ks_le len k
    have hone := own_one0' hown
    clear hown hb
    by_cases hlt : k < 8 + len
    · cases hT : tyK len (k : Int)
      · have HK : Hid (ks len (k + 1) = ks len k) := by show _ = _; rw [ks_succ, hT]; simp
        have HV : Hid (kvOf len (k : Int) = .nilIface) := by show _ = _; rw [kvOf, hT]; rfl
        go_wp2_with fail
        refine (kindImpl _ _ _ _ _ (by omega) (by omega) (by omega)).mono ?_
        rintro e w1 ⟨rfl, rfl⟩
        rw [hT, HV.out]
        go_wp2_with fail
        exact ⟨⟨k + 1, by omega, by go_num, by rw [HK.out]; exact HO.out, HB.out⟩, by simp [intOf]; omega⟩
      · have HK : Hid (ks len (k + 1) = ks len k ++ [(k : Int)]) := by show _ = _; rw [ks_succ, hT]; rfl
        have HV : Hid (kvOf len (k : Int) = kv k) := by show _ = _; rw [kvOf, hT]; rfl
        obtain ⟨tk, vk, ek⟩ := kv_is k
        rw [ek] at HV
        have EK : Hid (kv k = .iface tk vk) := ek
        clear ek
        go_wp2_with fail
        refine (kindImpl _ _ _ _ _ (by omega) (by omega) (by omega)).mono ?_
        rintro e w1 ⟨rfl, rfl⟩
        rw [hT, HV.out]
        go_wp2_with (at_builtin; refine wpList_append_own _ rfl _ _ 102 rfl w.heap.size 98 i0 .nilIface 1 16 Tryd.underlying102 hi0 hz0 hz1 hz2 rfl (by decide) _ _ _ rfl (HO.out.alloc _) ⟨wr.heap.size, 0, none⟩ 1 1 [.iface tk vk] rfl rfl ?c1 ?c2 ?c3 ?c4 ?c5 ?_)
        case c1 =>
          intro j u hj
          match j, hj with
          | 0, hj => simp at hj; subst hj; simp [Addr.add]
        case c2 => intro u hu; simp at hu; subst hu; rfl
        case c3 => unfold maxLen; omega
        case c4 => omega
        case c5 => simp; omega
        · intro v' w2 hown' hgrow _
          have P : Hid (w2.ownsRow w.heap.size 98 1 v' (ks len (k + 1)).length ((ks len (k + 1)).map kv) ∧ Below w.heap.size w w2) := by
            refine ⟨?_, grown_below HB.out hsz HO.out hgrow⟩
            rw [HK.out, List.length_append, List.map_append, List.map_cons, List.map_nil, EK.out]
            exact hown'
          have hone' := own_one0' hown'
          clear hown' hgrow
          go_wp2_with fail
          exact ⟨⟨k + 1, by omega, by go_num, P.out.1, P.out.2⟩, by simp [intOf]; omega⟩
    · have ek : k = 8 + len := by omega
      subst ek
      go_wp2_with fail
      go_ret
      exact ⟨_, rfl, HO.out, HB.out⟩

end Go.Proofs.YtkggmcbjpmhmcaaDoor
