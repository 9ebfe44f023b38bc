/-
  Slices of truths: copied into new memory, held against another one that is the same, their size.
-/
import Derived.Test.YtjbmcdekhhbiaaaGreatDtInt
namespace Go.Proofs.YtjbmcdekhhbiaaaGreat
open Go.ChangeShapes Go.WideShapes Go.ChangeAt Go.RowKit

abbrev boolR : Rep Bool := .bool
theorem SlAt.tru {D : Nat → Prop} {w : World} {a : Option Addr} {len : Nat} {xs : List Bool} (h : SlAt boolR D w a len xs) (i : Nat) (hi : i < len) : ∃ b off, a = some ⟨b, off, none⟩ ∧ D b ∧ w.cell? ⟨b, off + i, none⟩ = some (.bool (xs.getD i false)) := by
  have hs := h.size
  obtain ⟨b, off, ha, hd, vs, hv, hc⟩ := h.at i (xs[i]'(by omega)) (List.getElem?_eq_getElem _)
  have hv : vs = [.bool (xs[i]'(by omega))] := hv
  subst hv
  refine ⟨b, off, ha, hd, ?_⟩
  have := hc 0 _ rfl
  rw [List.getD_eq_getElem?_getD, List.getElem?_eq_getElem (by omega)]
  simpa [Rep.bool] using this
theorem SlAt.ofTru {D : Nat → Prop} {w : World} {a : Option Addr} {len : Nat} {xs : List Bool} (hs : xs.length = len) (hr : len ≤ 9223372036854775807) (h : len = 0 ∨ ∃ b off, a = some ⟨b, off, none⟩ ∧ D b ∧ ∀ j, j < len → w.cell? ⟨b, off + j, none⟩ = some (.bool (xs.getD j false))) : SlAt boolR D w a len xs := by
  refine ⟨hs, hr, ?_⟩
  rcases h with h0 | ⟨b, off, ha, hd, hc⟩
  · exact .inl h0
  · refine .inr ⟨b, off, ha, hd, fun i x hx => ⟨[.bool x], rfl, fun j v hv => ?_⟩⟩
    have hi := (List.getElem?_eq_some_iff.1 hx).1
    have := hc i (by omega)
    rw [List.getD_eq_getElem?_getD, hx] at this
    match j, hv with
    | 0, hv =>
      simp at hv
      subst hv
      simpa [Rep.bool] using this
theorem RowAt.tru {w : World} {G len : Nat} {xs : List Bool} (h : RowAt w G len (fun j => .bool (xs.getD j false))) (hs : xs.length = len) (hl : len ≤ 1048576) {D : Nat → Prop} (hd : D G) : SlAt boolR D w (some ⟨G, 0, none⟩) len xs :=
  SlAt.ofTru hs (by omega) (.inr ⟨G, 0, rfl, hd, fun j hj => by rw [Nat.zero_add]; exact (h j hj).1⟩)
theorem info_boo : (Tryz.prog.info? 4).map (fun i => (i.zero, i.size, i.bytes)) = some (some (.bool false), 1, 1) := by kernel_rfl
theorem toBoolsF (a : Option Addr) (len cap : Nat) (xs : List Bool) (w : World) {D : Nat → Prop} (h : SlAt boolR D w a len xs) (hlen : len ≤ 1048576) :
    Calls Tryz.prog 33 #[.slice a len cap] w fun e w' => e = .returned (.slice (some ⟨w.heap.size, 0, none⟩) len len) ∧ RowAt w' w.heap.size len (fun j => .bool (xs.getD j false)) ∧ Below w.heap.size w w' ∧ FZ w w' := by
  have hmk := fun wx => run_make_row' (P := Tryz.prog) 24 4 (.bool false) 1 Tryz.underlying24 info_boo rfl .i64 .i64 len (by omega) (by omega) wx
  have H : Hid (SlAt boolR D w a len xs) := h
  clear h
  go_enter Tryz.func33, Tryz.ntmps33
  go_wp2_with fail
  go_loopw [4] (fun t wr => ∃ k : Nat, k ≤ len ∧ t = .int .i64 k ∧ RowAt wr w.heap.size len (fun j => if j < k then .bool (xs.getD j false) else .bool false) ∧ Below w.heap.size w wr ∧ wr.heap.size = w.heap.size + 1 ∧ FZ w wr) (fun t _ => len - (intOf t).toNat)
  case atStart =>
    refine ⟨0, Nat.zero_le _, rfl, (RowAt.made w #[.bool false] len 4).congr fun j _ => by simp [Nat.mod_one], by go_grown, by simp, fun a => by simp only [frozen?_alloc_cells]⟩
  case round =>
    obtain ⟨k, hk, rfl, hrow, hb, hs, hfz⟩ := hrel
    have HZF : Hid (FZ w wr) := hfz
    have HR : Hid (RowAt wr w.heap.size len (fun j => if j < k then .bool (xs.getD j false) else .bool false)) := hrow
    have HB : Hid (Below w.heap.size w wr) := hb
    have HSz : Hid (wr.heap.size = w.heap.size + 1) := hs
    clear hrow hb hs hfz
    by_cases hlt : k < len
    · obtain ⟨b, off, rfl, _, hc⟩ := (H.out.later HB.out).tru k hlt
      have hg := (HR.out k hlt).1
      simp only [Nat.lt_irrefl, if_false] at hg
      have hf := (HR.out k hlt).2
      have HF : Hid (RowAt (wr.setCell ⟨w.heap.size, k, none⟩ (.bool (xs.getD k false))) w.heap.size len (fun j => if j < k + 1 then .bool (xs.getD j false) else .bool false)) :=
        (HR.out.set k (.bool (xs.getD k false))).congr fun j _ => by
          by_cases e : j = k
          · subst e; simp
          · by_cases e2 : j < k
            · rw [if_neg e, if_pos e2, if_pos (by omega)]
            · rw [if_neg e, if_neg e2, if_neg (by omega)]
      generalize xs.getD k false = x at hc HF
      go_wp2_with fail
      exact ⟨⟨k + 1, by omega, by go_num, HF.out, HB.out.setCell (Nat.le_refl _) _, by rw [World.size_setCell]; exact HSz.out, fun a => by rw [World.frozen?_setCell]; exact HZF.out a⟩, by simp [intOf]; omega⟩
    · have ek : k = len := by omega
      subst ek
      go_wp2_with fail
      go_ret
      exact ⟨rfl, HR.out.congr fun j hj => by rw [if_pos hj], HB.out, HZF.out⟩
theorem toLBoolF (a : Option Addr) (len cap : Nat) (xs : List Bool) (w : World) {D : Nat → Prop} (h : SlAt boolR D w a len xs) (hs : (Rep.list boolR).small xs) :
    Calls Tryz.prog 33 #[.slice a len cap] w fun e w' => ToL boolR w len xs e w' ∧ FZ w w' := by
  have hlen : len ≤ 1048576 := by rw [← h.size]; exact hs.1
  refine (toBoolsF a len cap xs w h hlen).mono ?_
  rintro e w' ⟨he, hr, hb, hz⟩
  exact ⟨⟨_, 0, he, hr.tru h.size hlen (D := fun b => w.heap.size ≤ b) (Nat.le_refl _), hb⟩, hz⟩
theorem toLBool (a : Option Addr) (len cap : Nat) (xs : List Bool) (w : World) {D : Nat → Prop} (h : SlAt boolR D w a len xs) (hs : (Rep.list boolR).small xs) :
    Calls Tryz.prog 33 #[.slice a len cap] w fun e w' => ToL boolR w len xs e w' := (toLBoolF a len cap xs w h hs).mono fun _ _ h => h.1
theorem eqLBool (a : Option Addr) (la ca : Nat) (b : Option Addr) (lb cb : Nat) (xs : List Bool) (w : World) {D E : Nat → Prop} (hx : SlAt boolR D w a la xs) (hy : SlAt boolR E w b lb xs) :
    Calls Tryz.prog 38 #[.slice a la ca, .slice b lb cb] w fun e w' => e = .returned (.bool true) ∧ Below w.heap.size w w' := by
  have hra := hx.room
  have el : lb = la := by rw [← hx.size, ← hy.size]
  subst el
  have HX : Hid (SlAt boolR D w a lb xs) := hx
  have HY : Hid (SlAt boolR E w b lb xs) := hy
  clear hx hy
  have e1 : ((lb : Int) != lb) = false := by simp
  go_enter Tryz.func38, Tryz.ntmps38
  go_wp2_with fail
  go_loopw [5] (fun t wr => ∃ k : Nat, k ≤ lb ∧ t = .int .i64 k ∧ ∃ n, wr = w.drewN n) (fun t _ => lb - (intOf t).toNat)
  case atStart => exact ⟨0, Nat.zero_le _, rfl, 0, rfl⟩
  case round =>
    obtain ⟨k, hk, rfl, n, rfl⟩ := hrel
    by_cases hlt : k < lb
    · obtain ⟨b1, o1, rfl, _, c1⟩ := HX.out.tru k hlt
      obtain ⟨b2, o2, rfl, _, c2⟩ := HY.out.tru k hlt
      generalize xs.getD k false = x at c1 c2
      have e2 : (x != x) = false := by cases x <;> rfl
      go_wp2_with fail
      go_quiet (fail)
      go_wp2_with fail
      refine ⟨⟨k + 1, by omega, by go_num, ?_⟩, by simp [intOf]; omega⟩
      first | exact ⟨n + 1, rfl⟩ | exact ⟨_, rfl⟩
    · have ek : k = lb := by omega
      subst ek
      go_wp2_with fail
      go_ret
      exact ⟨rfl, below_drawn n rfl⟩
theorem szLBool (a : Option Addr) (len cap : Nat) (xs : List Bool) (l : Int) (w : World) {D : Nat → Prop} (h : SlAt boolR D w a len xs) (k0 : 0 ≤ l) (k1 : l ≤ 1048576) :
    Calls Tryz.prog 26 #[.slice a len cap, .int .i64 l] w fun e w' => SzP w l ((Rep.list boolR).small xs) e w' := by
  have hr := h.room
  have HS : Hid (xs.length = len) := h.size
  clear h
  by_cases hl : l < len
  · go_enter Tryz.func26, Tryz.ntmps26
    go_wp2_with fail
    go_ret
    exact ⟨-1, rfl, by omega, by omega, by omega, Below.refl _ _⟩
  · have h0 : 0 ≤ l - len := by omega
    go_enter Tryz.func26, Tryz.ntmps26
    go_wp2_with fail
    go_ret
    exact ⟨_, rfl, by omega, by omega, fun _ => ⟨by rw [HS.out]; omega, fun _ _ => trivial⟩, Below.refl _ _⟩
theorem rdL_Bool : Reads 24 (.list .bool) := reads_list Tryz.underlying24 (by kernel_rfl) rd_bool

end Go.Proofs.YtjbmcdekhhbiaaaGreat
