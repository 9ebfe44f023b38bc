/-
  A method: what is said of it, and that the program says so, in whatever memory; it writes nothing that was there.
-/
import Derived.Test.YthdlccadcadopaaGreatUniE
import Derived.Test.YthdlccadcadopaaGreatMeOf
namespace Go.Proofs.YthdlccadcadopaaGreat
open Go.ChangeShapes Go.WideShapes Go.ChangeAt Go.RowKit

/-- A method, by the program's own questions. -/
def methK (L : List Cl) (M : List Me) (m : Me) : Bool :=
  ((((owB L.length m.1 m.2.1 && tysB L.length m.2.2.1 m.2.2.2.1) && locK m.1 m.2.2.2.2.1 m.2.2.1.length) &&
    ((decide (1 ≤ m.2.2.2.2.2.1.length) && decide (m.2.2.2.2.2.1.length ≤ 12)) && (List.range m.2.2.2.2.2.1.length).all (fun i => codK L M m.2.2.2.2.1 m.2.2.2.2.2.1.length (ins m.2.2.2.2.2.1 i)))) &&
    (decide (m.2.2.2.2.2.2.1.length = m.2.2.2.2.2.1.length) && (List.range m.2.2.2.2.2.2.1.length).all (fun i => shK L.length m.2.2.2.2.1 (shp m.2.2.2.2.2.2.1 i)))) &&
    (decide (m.2.2.2.2.2.2.2.length ≤ 2) && (List.range m.2.2.2.2.2.2.2.length).all (fun i => catK' L m.2.2.2.2.2.1.length (cat m.2.2.2.2.2.2.2 i)))

set_option maxRecDepth 100000 in
set_option maxHeartbeats 8000000 in
theorem methodImpl (ca : Option Addr) (cn cc : Nat) (ma : Option Addr) (mn mc : Nat) (q : Nat) (c s o lo : Int) (aa : Option Addr) (al ac : Nat) (da : Option Addr) (dl dc : Nat) (sa : Option Addr) (sl sc : Nat) (ha : Option Addr) (hl hc : Nat) (args : List Int) (X : List In) (Y : List Sh) (Z : List Ca) (L : List Cl) (M : List Me) (w : World) {D E G : Nat → Prop} (h : ClsAt D E w ca cn L) (ok : clsOk L = true) (hM : SlAt meR G w ma mn M) (hA : SlAt intR G w aa al args) (hX : SlAt inR G w da dl X) (hY : SlAt shR G w sa sl Y) (hZ : SlAt caR G w ha hl Z) (ho' : i64B o) (hq : w.heap[q]? = some (.map (wE 24) 24)) :
    Calls Tryz.prog 116 #[.agg #[.slice ca cn cc, .slice ma mn mc, .map (some q)], .agg #[.int .i64 c, .int .i64 s, .slice aa al ac, .int .i64 o, .int .i64 lo, .slice da dl dc, .slice sa sl sc, .slice ha hl hc]] w fun e w' => e = .returned (.bool (methK L M (c, s, args, o, lo, X, Y, Z))) ∧ Below w.heap.size w w' := by
  have H : Hid (ClsAt D E w ca cn L) := h
  have OK : Hid (clsOk L = true) := ok
  have HS : Hid (L.length = cn) := h.size
  have hl5 := (ok_len ok).2
  rw [h.size] at hl5
  have HM : Hid (SlAt meR G w ma mn M) := hM
  have HA : Hid (IntsAt G w aa al args) := hA.ints
  have AS : Hid (args.length = al) := hA.size
  have HX : Hid (SlAt inR G w da dl X) := hX
  have HY : Hid (SlAt shR G w sa sl Y) := hY
  have HZ : Hid (SlAt caR G w ha hl Z) := hZ
  have xr := hX.room
  have ho : Hid (i64B o) := ho'
  have hql : q < w.heap.size := (Array.getElem?_eq_some_iff.1 hq).1
  have HQ : Hid (w.heap[q]? = some (.map (wE 24) 24)) := hq
  have HF : Hid (methK L M (c, s, args, o, lo, X, Y, Z) = (((((owB cn c s && tysB cn args o) && locK c lo al) && ((decide (1 ≤ dl) && decide (dl ≤ 12)) && (List.range dl).all (fun i => codK L M lo dl (ins X i)))) && (decide (sl = dl) && (List.range sl).all (fun i => shK cn lo (shp Y i)))) && (decide (hl ≤ 2) && (List.range hl).all (fun i => catK' L dl (cat Z i))))) := by
    show _ = _
    rw [methK]; simp only; rw [h.size, hA.size, hX.size, hY.size, hZ.size]
  have KC : Hid (∀ x : World, Below (w.heap.size + 1 + 1) ((w.alloc (.cells #[.slice ca cn cc, .slice ma mn mc, .map (some q)] 116)).alloc (.cells #[.int .i64 c, .int .i64 s, .slice aa al ac, .int .i64 o, .int .i64 lo, .slice da dl dc, .slice sa sl sc, .slice ha hl hc] 68)) x → x.cell? ⟨w.heap.size, 0, none⟩ = some (.slice ca cn cc) ∧ x.cell? ⟨w.heap.size, 1, none⟩ = some (.slice ma mn mc) ∧ x.cell? ⟨w.heap.size, 2, none⟩ = some (.map (some q)) ∧ x.cell? ⟨w.heap.size + 1, 0, none⟩ = some (.int .i64 c) ∧ x.cell? ⟨w.heap.size + 1, 1, none⟩ = some (.int .i64 s) ∧ x.cell? ⟨w.heap.size + 1, 2, none⟩ = some (.slice aa al ac) ∧ x.cell? ⟨w.heap.size + 1, 3, none⟩ = some (.int .i64 o) ∧ x.cell? ⟨w.heap.size + 1, 4, none⟩ = some (.int .i64 lo) ∧ x.cell? ⟨w.heap.size + 1, 5, none⟩ = some (.slice da dl dc) ∧ x.cell? ⟨w.heap.size + 1, 6, none⟩ = some (.slice sa sl sc) ∧ x.cell? ⟨w.heap.size + 1, 7, none⟩ = some (.slice ha hl hc)) := fun x hb => ⟨later2 hb (two_first rfl), later2 hb (two_first rfl), later2 hb (two_first rfl), later2 hb (two_second rfl), later2 hb (two_second rfl), later2 hb (two_second rfl), later2 hb (two_second rfl), later2 hb (two_second rfl), later2 hb (two_second rfl), later2 hb (two_second rfl), later2 hb (two_second rfl)⟩
  have B0 : Hid (Below (w.heap.size + 1 + 1) ((w.alloc (.cells #[.slice ca cn cc, .slice ma mn mc, .map (some q)] 116)).alloc (.cells #[.int .i64 c, .int .i64 s, .slice aa al ac, .int .i64 o, .int .i64 lo, .slice da dl dc, .slice sa sl sc, .slice ha hl hc] 68)) ((w.alloc (.cells #[.slice ca cn cc, .slice ma mn mc, .map (some q)] 116)).alloc (.cells #[.int .i64 c, .int .i64 s, .slice aa al ac, .int .i64 o, .int .i64 lo, .slice da dl dc, .slice sa sl sc, .slice ha hl hc] 68))) := Below.refl _ _
  clear h ok hM hA hX hY hZ hq ho'
  go_enter Tryz.func116, Tryz.ntmps116
  go_wp2_with fail
  refine (ownerImpl _ _ _ _ _ _ _ _ _ _ _ _ _ _ _ _ _ _ _ _ _ _ _ _ (by omega)).mono ?_
  rintro e w1 ⟨rfl, hb1⟩
  have B1 : Hid (Below (w.heap.size + 1 + 1) ((w.alloc (.cells #[.slice ca cn cc, .slice ma mn mc, .map (some q)] 116)).alloc (.cells #[.int .i64 c, .int .i64 s, .slice aa al ac, .int .i64 o, .int .i64 lo, .slice da dl dc, .slice sa sl sc, .slice ha hl hc] 68)) w1) := B0.out.trans (hb1.mono (by simp))
  clear hb1 
  obtain ⟨p0, p1, p2, m0, m1, m2, m3, m4, m5, m6, m7⟩ := KC.out w1 B1.out
  cases g1 : owB cn c s
  · go_wp2_with fail
    go_ret
    exact ⟨by rw [HF.out, g1]; rfl, below2 B1.out⟩
  go_wp2_with fail
  refine (typesImpl _ _ _ _ _ _ _ _ _ _ _ _ _ _ _ _ _ _ _ _ _ _ _ args _ (HA.out.later (below2 B1.out)) (by omega) ho.out).mono ?_
  rintro e w2 ⟨rfl, hb2⟩
  have B2 : Hid (Below (w.heap.size + 1 + 1) ((w.alloc (.cells #[.slice ca cn cc, .slice ma mn mc, .map (some q)] 116)).alloc (.cells #[.int .i64 c, .int .i64 s, .slice aa al ac, .int .i64 o, .int .i64 lo, .slice da dl dc, .slice sa sl sc, .slice ha hl hc] 68)) w2) := B1.out.trans (hb2.mono (by have := B1.out.size; simpa using this))
  clear hb2 p0 p1 p2 m0 m1 m2 m3 m4 m5 m6 m7
  obtain ⟨p0, p1, p2, m0, m1, m2, m3, m4, m5, m6, m7⟩ := KC.out w2 B2.out
  cases g2 : tysB cn args o
  · go_wp2_with fail
    go_ret
    exact ⟨by rw [HF.out, g1, g2]; rfl, below2 B2.out⟩
  have hal : al ≤ 2 := by unfold tysB at g2; rw [AS.out] at g2; simp at g2; exact g2.1.1
  go_wp2_with fail
  refine (localsImpl _ _ _ _ _ _ _ _ _ _ _ _ _ _ _ _ _ (by omega)).mono ?_
  rintro e w3 ⟨rfl, hb3⟩
  have B3 : Hid (Below (w.heap.size + 1 + 1) ((w.alloc (.cells #[.slice ca cn cc, .slice ma mn mc, .map (some q)] 116)).alloc (.cells #[.int .i64 c, .int .i64 s, .slice aa al ac, .int .i64 o, .int .i64 lo, .slice da dl dc, .slice sa sl sc, .slice ha hl hc] 68)) w3) := B2.out.trans (hb3.mono (by have := B2.out.size; simpa using this))
  clear hb3 p0 p1 p2 m0 m1 m2 m3 m4 m5 m6 m7
  obtain ⟨p0, p1, p2, m0, m1, m2, m3, m4, m5, m6, m7⟩ := KC.out w3 B3.out
  cases g3 : locK c lo al
  · go_wp2_with fail
    go_ret
    exact ⟨by rw [HF.out, g1, g2, g3]; rfl, below2 B3.out⟩
  go_wp2_with fail
  refine (codeImpl _ _ _ _ _ _ _ _ _ _ _ _ _ _ _ _ _ _ _ _ _ _ _ X L M _ (H.out.later (below2 B3.out)) OK.out (HM.out.later (below2 B3.out)) (HX.out.later (below2 B3.out)) (by rw [(below2 B3.out).block q hql]; exact HQ.out)).mono ?_
  rintro e w4 ⟨rfl, hb4⟩
  have B4 : Hid (Below (w.heap.size + 1 + 1) ((w.alloc (.cells #[.slice ca cn cc, .slice ma mn mc, .map (some q)] 116)).alloc (.cells #[.int .i64 c, .int .i64 s, .slice aa al ac, .int .i64 o, .int .i64 lo, .slice da dl dc, .slice sa sl sc, .slice ha hl hc] 68)) w4) := B3.out.trans (hb4.mono (by have := B3.out.size; simpa using this))
  clear hb4 p0 p1 p2 m0 m1 m2 m3 m4 m5 m6 m7
  obtain ⟨p0, p1, p2, m0, m1, m2, m3, m4, m5, m6, m7⟩ := KC.out w4 B4.out
  cases g4 : ((decide (1 ≤ dl) && decide (dl ≤ 12)) && (List.range dl).all (fun i => codK L M lo dl (ins X i)))
  · go_wp2_with fail
    go_ret
    exact ⟨by rw [HF.out, g1, g2, g3, g4]; rfl, below2 B4.out⟩
  go_wp2_with fail
  refine (shapesImpl _ _ _ _ _ _ _ _ _ _ _ _ _ _ _ _ _ _ _ _ _ _ _ Y _ (by omega) xr (HY.out.later (below2 B4.out))).mono ?_
  rintro e w5 ⟨rfl, hb5⟩
  have B5 : Hid (Below (w.heap.size + 1 + 1) ((w.alloc (.cells #[.slice ca cn cc, .slice ma mn mc, .map (some q)] 116)).alloc (.cells #[.int .i64 c, .int .i64 s, .slice aa al ac, .int .i64 o, .int .i64 lo, .slice da dl dc, .slice sa sl sc, .slice ha hl hc] 68)) w5) := B4.out.trans (hb5.mono (by have := B4.out.size; simpa using this))
  clear hb5 p0 p1 p2 m0 m1 m2 m3 m4 m5 m6 m7
  obtain ⟨p0, p1, p2, m0, m1, m2, m3, m4, m5, m6, m7⟩ := KC.out w5 B5.out
  cases g5 : (decide (sl = dl) && (List.range sl).all (fun i => shK cn lo (shp Y i)))
  · go_wp2_with fail
    go_ret
    exact ⟨by rw [HF.out, g1, g2, g3, g4, g5]; rfl, below2 B5.out⟩
  go_wp2_with fail
  refine (catchesImpl _ _ _ _ _ _ _ _ _ _ _ _ _ _ _ _ _ _ _ _ _ _ _ Z L _ (H.out.later (below2 B5.out)) OK.out xr (HZ.out.later (below2 B5.out))).mono ?_
  rintro e w6 ⟨rfl, hb6⟩
  have B6 : Hid (Below (w.heap.size + 1 + 1) ((w.alloc (.cells #[.slice ca cn cc, .slice ma mn mc, .map (some q)] 116)).alloc (.cells #[.int .i64 c, .int .i64 s, .slice aa al ac, .int .i64 o, .int .i64 lo, .slice da dl dc, .slice sa sl sc, .slice ha hl hc] 68)) w6) := B5.out.trans (hb6.mono (by have := B5.out.size; simpa using this))
  clear hb6 p0 p1 p2 m0 m1 m2 m3 m4 m5 m6 m7
  obtain ⟨p0, p1, p2, m0, m1, m2, m3, m4, m5, m6, m7⟩ := KC.out w6 B6.out
  go_wp2_with fail
  go_ret
  exact ⟨by rw [HF.out, g1, g2, g3, g4, g5]; rfl, below2 B6.out⟩

end Go.Proofs.YthdlccadcadopaaGreat
