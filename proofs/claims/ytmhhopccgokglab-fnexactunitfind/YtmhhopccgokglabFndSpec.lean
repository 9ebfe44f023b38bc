/-
  Which method a class answers with: what is said of it, and that the specification says so, in whatever memory; it writes nothing that was there.
-/
import Derived.Test.YtmhhopccgokglabUnitSpec
namespace Go.Proofs.Ytmhhopccgokglab
open Go.ChangeShapes Go.WideShapes Go.ChangeAt Go.RowKit

/-- Whether a method is one of a class, called so; the place of the first such; up from class to class. -/
def isM (m : Me) (c s : Int) : Bool := (m.1 == c) && (m.2.1 == s)
def ownN (M : List Me) (c s : Int) : Nat → Int
  | 0 => -1
  | n + 1 => if 0 ≤ ownN M c s n then ownN M c s n else if isM (me M n) c s then n else -1
def ownI (M : List Me) (c s : Int) : Int := ownN M c s M.length
theorem ownN_neg {M : List Me} {c s : Int} : ∀ {n : Nat}, (∀ i, i < n → isM (me M i) c s = false) → ownN M c s n = -1
  | 0, _ => rfl
  | n + 1, h => by
    have ih := ownN_neg (n := n) (fun i hi => h i (by omega))
    rw [ownN, ih, if_neg (by decide), h n (by omega)]; rfl
theorem ownN_more {M : List Me} {c s : Int} {k : Nat} (h : 0 ≤ ownN M c s k) : ∀ n, k ≤ n → ownN M c s n = ownN M c s k
  | 0, hn => by
    have e : k = 0 := by omega
    subst e; rfl
  | n + 1, hn => by
    by_cases e : k = n + 1
    · subst e; rfl
    · have ih := ownN_more h n (by omega)
      rw [ownN, ih, if_pos h]
theorem ownN_at {M : List Me} {c s : Int} {k n : Nat} (hk : k < n) (h0 : ∀ i, i < k → isM (me M i) c s = false) (h1 : isM (me M k) c s = true) : ownN M c s n = k := by
  have e : ownN M c s (k + 1) = k := by rw [ownN, ownN_neg h0, if_neg (by decide), h1]; rfl
  rw [ownN_more (k := k + 1) (by rw [e]; omega) n hk, e]
def findN (L : List Cl) (M : List Me) (s : Int) : Nat → Nat → Int
  | 0, c => ownI M c s
  | f + 1, c => if 0 ≤ ownI M c s then ownI M c s else findN L M s f (sup L c)
def find (L : List Cl) (M : List Me) (c : Nat) (s : Int) : Int := findN L M s c c
theorem ownN_cases (M : List Me) (c s : Int) : ∀ n, 0 ≤ ownN M c s n ∨ ownN M c s n = -1
  | 0 => .inr rfl
  | n + 1 => by
    rw [ownN]
    by_cases h : 0 ≤ ownN M c s n
    · rw [if_pos h]; exact .inl h
    · rw [if_neg h]
      by_cases h2 : isM (me M n) c s = true
      · rw [if_pos h2]; exact .inl (by omega)
      · rw [if_neg h2]; exact .inr rfl
theorem findN_root {L : List Cl} (ok : clsOk L = true) (M : List Me) (s : Int) : ∀ f, findN L M s f 0 = ownI M 0 s
  | 0 => rfl
  | f + 1 => by
    have e : sup L 0 = 0 := by
      unfold sup
      have := ok_head ok 0 (by have := ok_len ok; omega)
      unfold headB at this
      rw [if_pos rfl] at this
      simp at this
      rw [this.1]; rfl
    rw [findN, e, findN_root ok M s f]
    by_cases h : 0 ≤ ownI M ((0 : Nat) : Int) s
    · rw [if_pos h]; rfl
    · rw [if_neg h]
theorem findN_more {L : List Cl} (ok : clsOk L = true) (M : List Me) (s : Int) : ∀ (a f : Nat), a < L.length → a ≤ f → findN L M s f a = findN L M s a a := by
  intro a
  induction a using Nat.strongRecOn with
  | ind a ih =>
    intro f hl hf
    match a, f, hf with
    | 0, f, _ => rw [findN_root ok, findN_root ok]
    | a + 1, f + 1, _ =>
      have hs := (sup_lt ok (a + 1) (by omega) hl).1
      rw [findN, findN]
      by_cases h : 0 ≤ ownI M ((a + 1 : Nat) : Int) s
      · rw [if_pos h, if_pos h]
      · rw [if_neg h, if_neg h, ih (sup L (a + 1)) hs f (by omega) (by omega), ih (sup L (a + 1)) hs a (by omega) (by omega)]
theorem find_stop {L : List Cl} {M : List Me} {c : Nat} {s : Int} (h : 0 ≤ ownI M c s) : find L M c s = ownI M c s := by
  unfold find
  match c with
  | 0 => rfl
  | c + 1 => rw [findN, if_pos h]
theorem find_root {L : List Cl} {M : List Me} {s : Int} : find L M 0 s = ownI M 0 s := rfl
theorem find_step {L : List Cl} (ok : clsOk L = true) {M : List Me} {c : Nat} {s : Int} (hc : 1 ≤ c) (hl : c < L.length) (h : ¬ 0 ≤ ownI M c s) : find L M c s = find L M (sup L c) s := by
  have hs := (sup_lt ok c hc hl).1
  unfold find
  match c, hc with
  | c + 1, _ => rw [findN, if_neg h, findN_more ok M s (sup L (c + 1)) c (by omega) (by omega)]
def findV (L : List Cl) (M : List Me) (c s : Int) : Int := if unitB L M && inI c 0 ((L.length : Int) - 1) then find L M c.toNat s else -1

set_option maxRecDepth 100000 in
set_option maxHeartbeats 4000000 in
theorem findSpec (ca : Option Addr) (cn cc : Nat) (ma : Option Addr) (mn mc : Nat) (c : Nat) (s : Int) (L : List Cl) (M : List Me) (w : World) {D E G : Nat → Prop} (h : ClsAt D E w ca cn L) (ok : clsOk L = true) (hM : SlAt meR G w ma mn M) (hc : c < cn) :
    Calls Try.prog 13 #[.agg #[.slice ca cn cc, .slice ma mn mc], .int .i64 c, .int .i64 s] w fun e w' => e = .returned (.int .i64 (find L M c s)) ∧ w' = w.alloc (.cells #[.slice ca cn cc, .slice ma mn mc] 31) := by
  obtain ⟨b, off, rfl, hcell⟩ : ∃ b off, ca = some ⟨b, off, none⟩ ∧ ∀ i, i < cn → w.cell? ⟨b, off + i * 2, none⟩ = some (.int .i64 (cl L i).1) := by
    rcases h.cells with h0 | ⟨b, off, ha, _, hc⟩
    · omega
    · exact ⟨b, off, ha, fun i hi => (hc i hi).1⟩
  have hb := World.block_lt_of_cell? w _ (hcell 0 (by omega))
  simp only at hb
  have HC : Hid (∀ i, i < cn → w.cell? ⟨b, off + i * 2, none⟩ = some (.int .i64 (cl L i).1)) := hcell
  have hcr := h.room
  have HS : Hid (L.length = cn) := h.size
  have OK : Hid (clsOk L = true) := ok
  have HM : Hid (SlAt meR G w ma mn M) := hM
  have MS : Hid (M.length = mn) := hM.size
  have hmr := hM.room
  obtain ⟨mb, mo, hmb⟩ := meBlock hM
  clear h ok hM hcell
  go_enter Try.func13, Try.ntmps13
  go_wp2_with fail
  go_loop [1] (fun t => (t = .int .i64 (-1) ∧ find L M c s = -1) ∨ ∃ m : Nat, m < cn ∧ t = .int .i64 m ∧ find L M m s = find L M c s) (fun t => (intOf t + 1).toNat)
  case atStart => exact .inr ⟨c, hc, rfl, rfl⟩
  case round =>
    rcases hrel with ⟨rfl, hu⟩ | ⟨m, hm, rfl, hu⟩
    · have HU : Hid (find L M c s = -1) := hu
      clear hu
      go_wp2_with fail
      go_ret
      exact ⟨by rw [HU.out]; rfl, rfl⟩
    have HU : Hid (find L M m s = find L M c s) := hu
    clear hu
    go_wp2_with fail
    go_loop [7] (fun t => ∃ i : Nat, i ≤ mn ∧ t = .int .i64 i ∧ ∀ j, j < i → isM (me M j) m s = false) (fun t => mn - (intOf t).toNat)
    case atStart => exact ⟨0, Nat.zero_le _, rfl, by omega⟩
    case round =>
      obtain ⟨i, hi, rfl, hv⟩ := hrel
      have HV : Hid (∀ j, j < i → isM (me M j) m s = false) := hv
      clear hv
      by_cases hlt : i < mn
      · obtain ⟨rfl, hmb'⟩ := hmb (by omega)
        clear hmb
        obtain ⟨xc, xs, xargs, xo, xlo, xX, xY, xZ, xaa, xal, xac, xda, xdl, xdc, xsa, xsl, xsc, xha, xhl, xhc, MX, x0, x1, _⟩ := meAt HM.out i hlt
        have HE : Hid (isM (me M i) m s = ((xc == m) && (xs == s))) := by show _ = _; rw [MX.is, isM]
        clear MX
        have hltI : (i : Int) < (mn : Int) := by omega
        cases g1 : (xc == (m : Int))
        · go_wp2_with fail
          refine ⟨⟨i + 1, by omega, by go_num, fun j hj => ?_⟩, by simp [intOf]; omega⟩
          by_cases e : j = i
          · subst e; rw [HE.out, g1]; rfl
          · exact HV.out j (by omega)
        cases g2 : (xs == s)
        · go_wp2_with fail
          refine ⟨⟨i + 1, by omega, by go_num, fun j hj => ?_⟩, by simp [intOf]; omega⟩
          by_cases e : j = i
          · subst e; rw [HE.out, g1, g2]; rfl
          · exact HV.out j (by omega)
        have HO : Hid (find L M c s = i) := by
          show _ = _
          have e : ownI M m s = i := by rw [ownI, MS.out]; exact ownN_at hlt HV.out (by rw [HE.out, g1, g2]; rfl)
          rw [← HU.out, find_stop (by rw [e]; omega), e]
        go_wp2_with fail
        go_ret
        exact ⟨by rw [HO.out]; rfl, rfl⟩
      · have ei : i = mn := by omega
        subst ei
        have HO : Hid (ownI M m s = -1) := by show _ = _; rw [ownI, MS.out]; exact ownN_neg HV.out
        have hcm := HC.out m hm
        by_cases h0 : m = 0
        · subst h0
          have Hr : Hid ((cl L 0).1 = -1) := by
            have := ok_head OK.out 0 (by have := ok_len OK.out; omega)
            unfold headB at this
            rw [if_pos rfl] at this
            simp at this
            exact this.1
          rw [Hr.out] at hcm
          simp only [Nat.zero_mul, Nat.add_zero] at hcm
          have HN : Hid (find L M c s = -1) := by show _ = _; rw [← HU.out, find_root]; exact HO.out
          go_wp2_with fail
          exact ⟨.inl ⟨rfl, HN.out⟩, by simp [intOf]⟩
        · have hs := sup_lt OK.out m (by omega) (by rw [HS.out]; exact hm)
          have hs1 := hs.1
          rw [hs.2] at hcm
          have HN : Hid (find L M (sup L m) s = find L M c s) := by
            show _ = _
            rw [← HU.out]
            exact (find_step OK.out (by omega) (by rw [HS.out]; exact hm) (by rw [HO.out]; decide)).symm
          clear hs
          go_wp2_with fail
          exact ⟨.inr ⟨sup L m, by omega, rfl, HN.out⟩, by simp [intOf]; omega⟩

set_option maxRecDepth 100000 in
set_option maxHeartbeats 4000000 in
theorem unitFindSpec (ca : Option Addr) (cn cc : Nat) (ma : Option Addr) (mn mc : Nat) (c s : Int) (L : List Cl) (M : List Me) (w : World) {D E G : Nat → Prop} (h : ClsAt D E w ca cn L) (hM : SlAt meR G w ma mn M) :
    Calls Try.prog 5 #[.agg #[.slice ca cn cc, .slice ma mn mc], .int .i64 c, .int .i64 s] w fun e w' => e = .returned (.int .i64 (findV L M c s)) ∧ Below w.heap.size w w' := by
  have H : Hid (ClsAt D E w ca cn L) := h
  have HS : Hid (L.length = cn) := h.size
  have hcr := h.room
  have HM : Hid (SlAt meR G w ma mn M) := hM
  have HF : Hid (findV L M c s = if unitB L M && inI c 0 ((cn : Int) - 1) then find L M c.toNat s else -1) := by show _ = _; rw [findV, HS.out]
  have KC : Hid (∀ x : World, Below (w.heap.size + 1) (w.alloc (.cells #[.slice ca cn cc, .slice ma mn mc] 31)) x → x.cell? ⟨w.heap.size, 0, none⟩ = some (.slice ca cn cc) ∧ x.cell? ⟨w.heap.size, 1, none⟩ = some (.slice ma mn mc)) := fun x hb => ⟨box_cell hb 0 _ rfl, box_cell hb 1 _ rfl⟩
  have B0 : Hid (Below w.heap.size w (w.alloc (.cells #[.slice ca cn cc, .slice ma mn mc] 31))) := (Below.refl _ _).alloc (Nat.le_refl _) _
  clear h hM
  go_enter Try.func5, Try.ntmps5
  go_wp2_with fail
  refine (unitSpec _ _ _ _ _ _ L M _ (H.out.later B0.out) (HM.out.later B0.out)).mono ?_
  rintro e w1 ⟨rfl, hb1⟩
  have B1 : Hid (Below (w.heap.size + 1) (w.alloc (.cells #[.slice ca cn cc, .slice ma mn mc] 31)) w1) := by show Below _ _ _; simpa using hb1
  clear hb1
  obtain ⟨p0, p1⟩ := KC.out w1 B1.out
  cases g1 : unitB L M
  · go_wp2_with fail
    go_ret
    exact ⟨by rw [HF.out, g1]; rfl, box_below B1.out⟩
  have OK : Hid (clsOk L = true) := by
    show _ = _
    unfold unitB at g1
    simp only [Bool.and_eq_true] at g1
    exact g1.1.1.1.1
  have hl5 := (ok_len OK.out).2
  rw [HS.out] at hl5
  go_wp2_with fail
  cases g2 : inI c 0 ((cn : Int) - 1)
  · refine (inSpec' _ _ _ _ g2 _).mono ?_
    rintro e w' ⟨rfl, rfl⟩
    go_wp2_with fail
    go_ret
    exact ⟨by rw [HF.out, g1, g2]; rfl, box_below B1.out⟩
  refine (inSpec' _ _ _ _ g2 _).mono ?_
  rintro e w' ⟨rfl, rfl⟩
  obtain ⟨m, rfl, hm⟩ := inI_nat g2
  go_wp2_with fail
  refine (findSpec _ _ _ _ _ _ m s L M _ (H.out.later (box_below B1.out)) OK.out (HM.out.later (box_below B1.out)) hm).mono ?_
  rintro e w2 ⟨rfl, hw2⟩
  have B2 : Hid (Below w.heap.size w w2) := by rw [hw2]; exact (box_below B1.out).alloc (by have := (box_below B1.out).size; simpa using this) _
  clear hw2
  go_wp2_with fail
  go_ret
  exact ⟨by rw [HF.out, g1, g2]; rfl, B2.out⟩

end Go.Proofs.Ytmhhopccgokglab
