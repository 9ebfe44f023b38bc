/-
  Things and roots are drawn: some lists, none of them great, in new memory.
-/
import Derived.Test.YtacapffmdmpnkaaDrHp
namespace Go.Proofs.Ytacapffmdmpnkaa
open Go.ChangeShapes Go.WideShapes Go.ChangeAt Go.RowKit

/-- Things that are drawn, in memory of their own. -/
structure HpO (base : Nat) (X : List Ob) (va : Option Addr) (vc : Nat) (L : List Value) (w : World) : Prop where
  own : w.ownsRow base 34 2 (.slice va X.length vc) X.length L
  out : OutR w base X X.length L
  few : ∀ x ∈ X, x.2.length ≤ 4 ∧ ∀ v ∈ x.2, i64B v.2
theorem HpO.keep {base : Nat} {X : List Ob} {va : Option Addr} {vc : Nat} {L : List Value} {w w' : World} (h : HpO base X va vc L w) (hk : ∀ (g : Nat) (cur : Array Value) (t : TypeId), base ≤ g → w.heap[g]? = some (.cells cur t (0, 0)) → (t = 34 → some g = (Value.slice va X.length vc).ownBlock) → w'.heap[g]? = w.heap[g]?) : HpO base X va vc L w' := by
  refine ⟨own_keep' h.own (fun g hg => ?_), ⟨h.out.len, fun j x hj hx => ?_⟩, h.few⟩
  · rcases h.own.2 with ⟨e, _⟩ | ⟨g2, cap, cur, e, hb, hcur, _⟩
    · rw [e] at hg; simp [Value.ownBlock] at hg
    · have hg2 := hg
      rw [e] at hg
      obtain rfl : g2 = g := by simpa [Value.ownBlock] using hg
      exact hk g2 cur _ hb hcur (fun _ => hg2.symm)
  · obtain ⟨h1, h2, a, c, h3, h4⟩ := h.out.at' j x hj hx
    refine ⟨h1, h2, a, c, h3, own_keep' h4 (fun g hg => ?_)⟩
    rcases h4.2 with ⟨e, _⟩ | ⟨g2, cap, cur, e, hb, hcur, _⟩
    · rw [e] at hg; simp [Value.ownBlock] at hg
    · rw [e] at hg
      obtain rfl : g2 = g := by simpa [Value.ownBlock] using hg
      exact hk g2 cur _ hb hcur (fun e => absurd e (by decide))
theorem HpO.gr {base R : Nat} {X : List Ob} {va : Option Addr} {vc : Nat} {L : List Value} {w w' : World} (h : HpO base X va vc L w) (g : w.grownBy w' (some R)) (hR : R < base) : HpO base X va vc L w' :=
  h.keep (fun b _ _ hb hc _ => g.block b (Array.getElem?_eq_some_iff.1 hc).1 (by intro e; simp at e; omega))
theorem vals_own_keep {base n c : Nat} {a : Option Addr} {xs : List Value} {w w' : World} {t : TypeId} (h : w.ownsRow base t 2 (.slice a n c) n xs) (hk : ∀ g, base ≤ g → g < w.heap.size → some g = (Value.slice a n c).ownBlock → w'.heap[g]? = w.heap[g]?) : w'.ownsRow base t 2 (.slice a n c) n xs :=
  own_keep' h (fun g hg => hk g (own_ge h g hg.symm) (own_lt' h g hg) hg.symm)

set_option maxRecDepth 100000 in
set_option maxHeartbeats 8000000 in
theorem drawHeap (B R k : Nat) (w : World) (h : Rd B w R k) (hk : k ≤ 1000) :
    Calls Try.prog 12 #[.pointer (some ⟨R, 0, none⟩)] w fun e w' => ∃ (X : List Ob) (r : List Vl) (a : Option Addr) (c : Nat) (b : Option Addr) (d : Nat), e = .returned (.tuple #[.slice a X.length c, .slice b r.length d]) ∧ SlAt obR (fun b => w.heap.size ≤ b) w' a X.length X ∧ SlAt vaR (fun b => w.heap.size ≤ b) w' b r.length r ∧ X.length ≤ 8 ∧ (∀ x ∈ X, x.2.length ≤ 4) ∧ r.length ≤ 8 ∧ Below B w w' := by
  have H : Hid (Rd B w R k) := h
  have hRs := h.size
  have hBR := h.low
  obtain ⟨i0, hi0, hz0, hz1, hz2⟩ := info_parts info_Val
  obtain ⟨j0, hj0, yz0, yz1, yz2⟩ := info_parts info_Obj
  clear h
  go_enter Try.func12, Try.ntmps12
  go_wp2_with fail
  refine (pick B R k 8 w H.out (by omega) (by omega)).mono ?_
  rintro e w1 ⟨v, rfl, v0, v1, h1⟩
  obtain ⟨n, rfl⟩ := Int.eq_ofNat_of_zero_le v0
  have hn8 : n < 8 := by omega
  have R1 : Hid (Rd B w1 R (k + 1)) := h1.rd
  have B1 : Hid (Below B w w1) := h1.below
  have s1 : w1.heap.size = w.heap.size := h1.size
  have s1' : R < w1.heap.size := by omega
  clear h1 v0 v1
  go_wp2_with fail
  go_loopw [5, 6] (fun s t wr => ∃ (i : Nat) (X : List Ob) (va : Option Addr) (vc : Nat) (L : List Value) (k' : Nat), i ≤ n ∧ X.length = i ∧ t = .int .i64 i ∧ s = .slice va i vc ∧ HpO w.heap.size X va vc L wr ∧ Rd B wr R k' ∧ k' ≤ k + 1 + 20 * i ∧ Below B w wr ∧ w.heap.size ≤ wr.heap.size) (fun _ t _ => n - (intOf t).toNat)
  case atStart =>
    refine ⟨0, [], _, _, [], k + 1, Nat.zero_le _, rfl, rfl, rfl, ⟨own_none _ _ _ (by omega) s1, ⟨rfl, fun j _ hj => by simp at hj⟩, by simp⟩, R1.out.alloc _, by omega, B1.out.alloc (by omega) _, by simp; omega⟩
  case round =>
    obtain ⟨i, X, va, vc, L, k', hi, hX, rfl, rfl, hO, hrd, hk', hb, hs⟩ := hrel
    have HO : Hid (HpO w.heap.size X va vc L wr) := hO
    have HR : Hid (Rd B wr R k') := hrd
    have HB : Hid (Below B w wr) := hb
    have HX : Hid (X.length = i) := hX
    clear hO hrd hb hX
    by_cases hlt : i < n
    · obtain ⟨wv, rfl⟩ : ∃ wv, wv = wr := ⟨wr, rfl⟩
      go_wp2_with fail
      refine (pick B R k' 6 wv HR.out (by omega) (by omega)).mono ?_
      rintro e w2 ⟨q, rfl, q0, q1, h2⟩
      have R2 : Hid (Rd B w2 R (k' + 1)) := h2.rd
      have B2 : Hid (Below B w w2) := HB.out.trans h2.below
      have O2 : Hid (HpO w.heap.size X va vc L w2) := HO.out.gr h2.gr (by omega)
      have s2 : w.heap.size ≤ w2.heap.size := by rw [h2.size]; exact hs
      clear h2 HO HR HB
      go_wp2_with fail
      refine (pick B R (k' + 1) 4 _ (R2.out.alloc _) (by omega) (by omega)).mono ?_
      rintro e w3 ⟨c, rfl, c0, c1, h3⟩
      obtain ⟨nc, rfl⟩ := Int.eq_ofNat_of_zero_le c0
      have hnc : nc < 4 := by omega
      have R3 : Hid (Rd B w3 R (k' + 1 + 1)) := h3.rd
      have G3 : Hid (w2.grownBy w3 (some R)) := gr_trans (gr_alloc w2 _ R) h3.gr
      have B3 : Hid (Below B w w3) := B2.out.trans ((Below.refl B w2).grown G3.out (by omega) (fun j e => by cases e; omega))
      have O3 : Hid (HpO w.heap.size X va vc L w3) := O2.out.gr G3.out (by omega)
      have s3 : w2.heap.size < w3.heap.size := by rw [h3.size]; simp
      have p0 : w3.cell? ⟨w2.heap.size, 0, none⟩ = some (.int .i64 (q - 2)) := by rw [h3.cell _ _ (by omega)]; simp [go_sem]
      have p1 : w3.cell? ⟨w2.heap.size, 1, none⟩ = some (.slice none 0 0) := by rw [h3.cell _ _ (by omega)]; simp [go_sem]
      have pf : w3.frozen? ⟨w2.heap.size, 1, none⟩ = false := by
        rw [World.frozen?_of_block (a := ⟨w2.heap.size, 1, none⟩) (h3.block w2.heap.size (by omega))]
        simp [go_sem]
      have P0 : Hid (w3.cell? ⟨w2.heap.size, 0, none⟩ = some (.int .i64 (q - 2)) ∧ w3.cell? ⟨w2.heap.size, 1, none⟩ = some (.slice none 0 0) ∧ w3.frozen? ⟨w2.heap.size, 1, none⟩ = false) := ⟨p0, p1, pf⟩
      have AG3 : Hid (∀ g, w.heap.size ≤ g → g < w2.heap.size → w3.heap[g]? = w2.heap[g]?) := fun g h1 h2 => G3.out.block g h2 (by intro e; simp at e; omega)
      clear h3 c0 c1 p0 p1 pf R2 B2 G3 O3
      go_wp2_with fail
      go_loopw [8] (fun t wr => ∃ (c : Nat) (vs : List Vl) (xa : Option Addr) (xc : Nat) (k2 : Nat), t = .int .i64 c ∧ c + vs.length ≤ 4 ∧ (∀ v ∈ vs, i64B v.2) ∧ wr.cell? ⟨w2.heap.size, 0, none⟩ = some (.int .i64 (q - 2)) ∧ wr.cell? ⟨w2.heap.size, 1, none⟩ = some (.slice xa vs.length xc) ∧ wr.frozen? ⟨w2.heap.size, 1, none⟩ = false ∧ wr.ownsRow (w2.heap.size + 1) 32 2 (.slice xa vs.length xc) vs.length (flatV vs) ∧
          (∀ g, w.heap.size ≤ g → g < w2.heap.size → wr.heap[g]? = w2.heap[g]?) ∧ Rd B wr R k2 ∧ k2 + 3 * c ≤ k' + 2 + 12 ∧ Below B w wr ∧ w2.heap.size < wr.heap.size) (fun t _ => (intOf t).toNat)
      case atStart => exact ⟨nc, [], none, 0, k' + 1 + 1, rfl, by simp; omega, by simp, P0.out.1, P0.out.2.1, P0.out.2.2, ⟨rfl, .inl ⟨rfl, rfl⟩⟩, AG3.out, R3.out, by omega, B3.out, s3⟩
      case round =>
        obtain ⟨c, vs, xa, xc, k2, rfl, hcv, hvs, x0, x1, xf, hxo, hag, hrd, hk2, hb, hsr⟩ := hrel
        have HV : Hid (∀ v ∈ vs, i64B v.2) := hvs
        have HXo : Hid (wr.ownsRow (w2.heap.size + 1) 32 2 (.slice xa vs.length xc) vs.length (flatV vs)) := hxo
        have HAG : Hid (∀ g, w.heap.size ≤ g → g < w2.heap.size → wr.heap[g]? = w2.heap[g]?) := hag
        have HR : Hid (Rd B wr R k2) := hrd
        have HB : Hid (Below B w wr) := hb
        have X0 : Hid (wr.cell? ⟨w2.heap.size, 0, none⟩ = some (.int .i64 (q - 2))) := x0
        have X1 : Hid (wr.cell? ⟨w2.heap.size, 1, none⟩ = some (.slice xa vs.length xc)) := x1
        have XF : Hid (wr.frozen? ⟨w2.heap.size, 1, none⟩ = false) := xf
        clear hvs hxo hag hrd hb
        by_cases hc0 : 0 < c
        · have hcs : (c : Int) - 1 = ((c - 1 : Nat) : Int) := by omega
          generalize hnv : vs.length = nv at *
          go_wp2_with fail
          refine wp_region_any (by kernel_rfl) ?_
          change wpAny _ _ _ _ _ _ _ (World.drew _)
          refine wpAny_take (i := 0) (v := .pointer (some ⟨w2.heap.size, 1, none⟩)) rfl (by kernel_rfl) (by kernel_rfl) (by kernel_rfl) (fun _ _ _ h => h) (Or.inl ⟨by rfl, by (intro w; go_simp)⟩) ?_
          try simp only [Act.put, List.getElem_toArray, List.getElem_cons_zero, List.setIfInBounds_toArray, List.set_cons_zero, List.set_cons_succ]
          refine wpAny_take (i := 2) (v := .pointer (some ⟨R, 0, none⟩)) rfl (by kernel_rfl) (by kernel_rfl) (by kernel_rfl) (fun _ _ _ h => h) (Or.inl ⟨by rfl, by (intro w; go_simp)⟩) ?_
          try simp only [Act.put, List.getElem_toArray, List.getElem_cons_zero, List.getElem_cons_succ, List.setIfInBounds_toArray, List.set_cons_zero, List.set_cons_succ]
          refine wpAny_take (i := 3) (v := .int .i64 n) rfl (by kernel_rfl) (by kernel_rfl) (by kernel_rfl) (fun _ _ _ h => h) (Or.inl ⟨by rfl, by (intro w; go_simp)⟩) ?_
          try simp only [Act.put, List.getElem_toArray, List.getElem_cons_zero, List.getElem_cons_succ, List.setIfInBounds_toArray, List.set_cons_zero, List.set_cons_succ]
          refine wpAny_ready (rs := [1, 4]) (by kernel_rfl) (by simp) ?_
          refine AllReady.cons rfl (fun K hK => ?_) ?_
          · go_simp
            refine hK _ _ ?_
            clear hK K
            try simp only [Act.put, List.getElem_toArray, List.getElem_cons_zero, List.getElem_cons_succ, List.setIfInBounds_toArray, List.set_cons_zero, List.set_cons_succ]
            refine wpAny_ready (rs := [4]) (by kernel_rfl) (by simp) ?_
            refine AllReady.cons rfl (fun K hK => ?_) AllReady.nil
            go_simp
            go_at_call 22
            refine (drawVal B R k2 n _ (HR.out.kept (w' := wr.drew) (fun _ _ => rfl) (Nat.le_refl _)) (by omega) (by omega)).mono ?_
            rintro e w5 ⟨y0, y1, k3, rfl, yb0, yb1, h5, hk3, g5⟩
            have g5' : wr.grownBy w5 (some R) := ⟨g5.os, g5.tape, g5.output, g5.size, fun j hj hn => g5.block j hj hn⟩
            have e5 : w5.heap[w2.heap.size]? = wr.heap[w2.heap.size]? := g5'.block _ hsr (by intro e; simp at e; omega)
            have d1 : w5.cell? ⟨w2.heap.size, 1, none⟩ = some (.slice xa nv xc) := (World.cell?_of_block (a := ⟨w2.heap.size, 1, none⟩) e5).trans X1.out
            have s5 : w2.heap.size < w5.heap.size := Nat.lt_of_lt_of_le hsr g5'.size
            have s5' : w2.heap.size < w5.heap.size + 1 := by omega
            have own5 := (own_keep' HXo.out (fun g hg => g5'.block g (own_lt' HXo.out g hg) (by intro e; have := own_ge HXo.out g hg.symm; simp at e; omega))).alloc (.cells #[.bool y0, .int .i64 y1] 32)
            obtain ⟨v', w6, hrun, r1, r2, _⟩ := run_append_own (P := Try.prog) (w5.alloc (.cells #[.bool y0, .int .i64 y1] 32)) (w2.heap.size + 1) 24 24 32 i0 _ 2 16 Try.underlying24 hi0 hz0 hz1 hz2 rfl (by decide) (.slice xa nv xc) nv _ own5 ⟨w5.heap.size, 0, none⟩ 1 1 [.bool y0, .int .i64 y1] rfl (two_new w5 _ _ _ _ rfl) (by simp [Value.oneCell']) (by unfold maxLen; omega) (by omega) (by simp; omega)
            obtain ⟨g', cap', rfl⟩ := ownsRow_succ r1
            have b6 : ∀ g, g < w5.heap.size → g ≤ w2.heap.size → w6.heap[g]? = w5.heap[g]? := fun g h1 h2 => (r2.block g (by simp; omega) (fun e => by have := own_ge HXo.out g e; omega)).trans (Below.heap_alloc w5 _ g h1)
            have e6 : w6.heap[w2.heap.size]? = wr.heap[w2.heap.size]? := (b6 _ s5 (Nat.le_refl _)).trans e5
            have c60 : w6.cell? ⟨w2.heap.size, 0, none⟩ = some (.int .i64 (q - 2)) := (World.cell?_of_block (a := ⟨w2.heap.size, 0, none⟩) e6).trans X0.out
            have c61 : w6.cell? ⟨w2.heap.size, 1, none⟩ = some (.slice xa nv xc) := (World.cell?_of_block (a := ⟨w2.heap.size, 1, none⟩) e6).trans X1.out
            have f61 : w6.frozen? ⟨w2.heap.size, 1, none⟩ = false := (World.frozen?_of_block (a := ⟨w2.heap.size, 1, none⟩) e6).trans XF.out
            have s6 := r2.size
            rw [World.size_alloc] at s6
            have FIN : Hid (∃ (c' : Nat) (vs' : List Vl) (xa' : Option Addr) (xc' k'' : Nat), (c : Int) - 1 = c' ∧ c' < c ∧ c' + vs'.length ≤ 4 ∧ (∀ v ∈ vs', i64B v.2) ∧ (w6.setCell ⟨w2.heap.size, 1, none⟩ (.slice (some ⟨g', 0, none⟩) (nv + 1) cap')).cell? ⟨w2.heap.size, 0, none⟩ = some (.int .i64 (q - 2)) ∧ (w6.setCell ⟨w2.heap.size, 1, none⟩ (.slice (some ⟨g', 0, none⟩) (nv + 1) cap')).cell? ⟨w2.heap.size, 1, none⟩ = some (.slice xa' vs'.length xc') ∧ (w6.setCell ⟨w2.heap.size, 1, none⟩ (.slice (some ⟨g', 0, none⟩) (nv + 1) cap')).frozen? ⟨w2.heap.size, 1, none⟩ = false ∧ (w6.setCell ⟨w2.heap.size, 1, none⟩ (.slice (some ⟨g', 0, none⟩) (nv + 1) cap')).ownsRow (w2.heap.size + 1) 32 2 (.slice xa' vs'.length xc') vs'.length (flatV vs') ∧ (∀ g, w.heap.size ≤ g → g < w2.heap.size → (w6.setCell ⟨w2.heap.size, 1, none⟩ (.slice (some ⟨g', 0, none⟩) (nv + 1) cap')).heap[g]? = w2.heap[g]?) ∧ Rd B (w6.setCell ⟨w2.heap.size, 1, none⟩ (.slice (some ⟨g', 0, none⟩) (nv + 1) cap')) R k'' ∧ k'' + 3 * c' ≤ k' + 2 + 12 ∧ Below B w (w6.setCell ⟨w2.heap.size, 1, none⟩ (.slice (some ⟨g', 0, none⟩) (nv + 1) cap')) ∧ w2.heap.size < (w6.setCell ⟨w2.heap.size, 1, none⟩ (.slice (some ⟨g', 0, none⟩) (nv + 1) cap')).heap.size) := by
              have hl1 : (vs ++ [(y0, y1)]).length = nv + 1 := by simp [hnv]
              have hR6 : Rd B w6 R k3 := h5.kept (fun j hj => b6 j (by rcases hj with hj | hj <;> omega) (by rcases hj with hj | hj <;> omega)) (by omega)
              refine ⟨c - 1, vs ++ [(y0, y1)], some ⟨g', 0, none⟩, cap', k3, hcs, by omega, by omega, fun v hv => ?_, ?_, ?_, by rw [World.frozen?_setCell]; exact f61, ?_, fun g h1 h2 => ?_, hR6.set (p := ⟨w2.heap.size, 1, none⟩) (by simp only; omega) (by simp only; omega) _, by omega, ?_, by rw [World.size_setCell]; omega⟩
              · rcases List.mem_append.1 hv with hv | hv
                · exact HV.out v hv
                · simp at hv; subst hv; exact ⟨by simp only; omega, by simp only; omega⟩
              · rw [World.cell?_setCell_other _ _ _ _ (by intro e; have := congrArg Addr.off e; simp at this)]; exact c60
              · rw [hl1]; exact World.cell?_setCell_same w6 _ _ c61
              · rw [hl1, flatV_snoc]; exact own_set r1 ⟨w2.heap.size, 1, none⟩ _ (by simp only; omega)
              · refine (Below.heap_setCell w6 _ _ g (fun e => by simp only at e; omega)).trans ((b6 g (by omega) (by omega)).trans ((g5'.block g (by omega) (by intro e; simp at e; omega)).trans (HAG.out g h1 h2)))
              · have b5 : Below B w w5 := HB.out.trans ((Below.refl B wr).grown g5' (by omega) (fun j e => by cases e; omega))
                exact Below.setCell (Below.grown (b5.alloc (by omega) _) r2 (by simp; omega) (fun b hb => by have := own_ge HXo.out b hb.symm; omega)) (by simp only; omega) _
            have HRUN : Hid ((Builtin.append_ #[24, 24] 24 #[.slice xa nv xc, .slice (some ⟨w5.heap.size, 0, none⟩) 1 1]).run Try.prog (w5.alloc (.cells #[.bool y0, .int .i64 y1] 32)) = .ok (.slice (some ⟨g', 0, none⟩) (nv + 1) cap') w6) := hrun
            clear hrun r1 r2 own5 b6 e5 e6 g5 g5' h5 s6
            go_wp2_with fail
            try simp only [Act.put, List.getElem_toArray, List.getElem_cons_zero, List.getElem_cons_succ, List.setIfInBounds_toArray, List.set_cons_zero, List.set_cons_succ]
            refine wpAny_ready (rs := [5]) (by kernel_rfl) (by simp) ?_
            refine AllReady.cons rfl (fun K hK => ?_) AllReady.nil
            go_simp
            refine hK _ _ ?_
            clear hK K
            try simp only [Act.put, List.getElem_toArray, List.getElem_cons_zero, List.getElem_cons_succ, List.setIfInBounds_toArray, List.set_cons_zero, List.set_cons_succ]
            refine wpAny_ready (rs := [6]) (by kernel_rfl) (by simp) ?_
            refine AllReady.cons rfl (fun K hK => ?_) AllReady.nil
            refine op_appP rfl _ _ _ rfl _ _ _ rfl rfl HRUN.out ?_
            refine hK _ _ ?_
            clear hK K
            try simp only [Act.put, List.getElem_toArray, List.getElem_cons_zero, List.getElem_cons_succ, List.setIfInBounds_toArray, List.set_cons_zero, List.set_cons_succ]
            refine wpAny_take (i := 7) (v := .pointer (some ⟨w2.heap.size, 1, none⟩)) rfl (by kernel_rfl) (by kernel_rfl) (by kernel_rfl) (fun _ _ _ h => h) (Or.inl ⟨by rfl, by (intro w; go_simp)⟩) ?_
            try simp only [Act.put, List.getElem_toArray, List.getElem_cons_zero, List.getElem_cons_succ, List.setIfInBounds_toArray, List.set_cons_zero, List.set_cons_succ]
            refine wpAny_ready (rs := [8]) (by kernel_rfl) (by simp) ?_
            refine AllReady.cons rfl (fun K hK => ?_) AllReady.nil
            go_simp
            refine hK _ _ ?_
            clear hK K
            try simp only [Act.put, List.getElem_toArray, List.getElem_cons_zero, List.getElem_cons_succ, List.setIfInBounds_toArray, List.set_cons_zero, List.set_cons_succ]
            refine wpAny_done (by kernel_rfl) ?_ _
            go_wp2_with fail
            obtain ⟨c', vs', xa', xc', k4, f0, fl, f1, f2, f3, f4, f5, f6, f7, f8, f9, f10, f11⟩ := FIN.out
            exact ⟨⟨c', vs', xa', xc', k4, by rw [← f0, hcs], f1, f2, f3, f4, f5, f6, f7, f8, f9, f10, f11⟩, by simp [intOf]; omega⟩
          refine AllReady.cons rfl (fun K hK => ?_) AllReady.nil
          go_simp
          go_at_call 22
          refine (drawVal B R k2 n _ (HR.out.kept (w' := wr.drew) (fun _ _ => rfl) (Nat.le_refl _)) (by omega) (by omega)).mono ?_
          rintro e w5 ⟨y0, y1, k3, rfl, yb0, yb1, h5, hk3, g5⟩
          have g5' : wr.grownBy w5 (some R) := ⟨g5.os, g5.tape, g5.output, g5.size, fun j hj hn => g5.block j hj hn⟩
          have e5 : w5.heap[w2.heap.size]? = wr.heap[w2.heap.size]? := g5'.block _ hsr (by intro e; simp at e; omega)
          have d1 : w5.cell? ⟨w2.heap.size, 1, none⟩ = some (.slice xa nv xc) := (World.cell?_of_block (a := ⟨w2.heap.size, 1, none⟩) e5).trans X1.out
          have s5 : w2.heap.size < w5.heap.size := Nat.lt_of_lt_of_le hsr g5'.size
          have s5' : w2.heap.size < w5.heap.size + 1 := by omega
          have own5 := (own_keep' HXo.out (fun g hg => g5'.block g (own_lt' HXo.out g hg) (by intro e; have := own_ge HXo.out g hg.symm; simp at e; omega))).alloc (.cells #[.bool y0, .int .i64 y1] 32)
          obtain ⟨v', w6, hrun, r1, r2, _⟩ := run_append_own (P := Try.prog) (w5.alloc (.cells #[.bool y0, .int .i64 y1] 32)) (w2.heap.size + 1) 24 24 32 i0 _ 2 16 Try.underlying24 hi0 hz0 hz1 hz2 rfl (by decide) (.slice xa nv xc) nv _ own5 ⟨w5.heap.size, 0, none⟩ 1 1 [.bool y0, .int .i64 y1] rfl (two_new w5 _ _ _ _ rfl) (by simp [Value.oneCell']) (by unfold maxLen; omega) (by omega) (by simp; omega)
          obtain ⟨g', cap', rfl⟩ := ownsRow_succ r1
          have b6 : ∀ g, g < w5.heap.size → g ≤ w2.heap.size → w6.heap[g]? = w5.heap[g]? := fun g h1 h2 => (r2.block g (by simp; omega) (fun e => by have := own_ge HXo.out g e; omega)).trans (Below.heap_alloc w5 _ g h1)
          have e6 : w6.heap[w2.heap.size]? = wr.heap[w2.heap.size]? := (b6 _ s5 (Nat.le_refl _)).trans e5
          have c60 : w6.cell? ⟨w2.heap.size, 0, none⟩ = some (.int .i64 (q - 2)) := (World.cell?_of_block (a := ⟨w2.heap.size, 0, none⟩) e6).trans X0.out
          have c61 : w6.cell? ⟨w2.heap.size, 1, none⟩ = some (.slice xa nv xc) := (World.cell?_of_block (a := ⟨w2.heap.size, 1, none⟩) e6).trans X1.out
          have f61 : w6.frozen? ⟨w2.heap.size, 1, none⟩ = false := (World.frozen?_of_block (a := ⟨w2.heap.size, 1, none⟩) e6).trans XF.out
          have s6 := r2.size
          rw [World.size_alloc] at s6
          have FIN : Hid (∃ (c' : Nat) (vs' : List Vl) (xa' : Option Addr) (xc' k'' : Nat), (c : Int) - 1 = c' ∧ c' < c ∧ c' + vs'.length ≤ 4 ∧ (∀ v ∈ vs', i64B v.2) ∧ (w6.setCell ⟨w2.heap.size, 1, none⟩ (.slice (some ⟨g', 0, none⟩) (nv + 1) cap')).cell? ⟨w2.heap.size, 0, none⟩ = some (.int .i64 (q - 2)) ∧ (w6.setCell ⟨w2.heap.size, 1, none⟩ (.slice (some ⟨g', 0, none⟩) (nv + 1) cap')).cell? ⟨w2.heap.size, 1, none⟩ = some (.slice xa' vs'.length xc') ∧ (w6.setCell ⟨w2.heap.size, 1, none⟩ (.slice (some ⟨g', 0, none⟩) (nv + 1) cap')).frozen? ⟨w2.heap.size, 1, none⟩ = false ∧ (w6.setCell ⟨w2.heap.size, 1, none⟩ (.slice (some ⟨g', 0, none⟩) (nv + 1) cap')).ownsRow (w2.heap.size + 1) 32 2 (.slice xa' vs'.length xc') vs'.length (flatV vs') ∧ (∀ g, w.heap.size ≤ g → g < w2.heap.size → (w6.setCell ⟨w2.heap.size, 1, none⟩ (.slice (some ⟨g', 0, none⟩) (nv + 1) cap')).heap[g]? = w2.heap[g]?) ∧ Rd B (w6.setCell ⟨w2.heap.size, 1, none⟩ (.slice (some ⟨g', 0, none⟩) (nv + 1) cap')) R k'' ∧ k'' + 3 * c' ≤ k' + 2 + 12 ∧ Below B w (w6.setCell ⟨w2.heap.size, 1, none⟩ (.slice (some ⟨g', 0, none⟩) (nv + 1) cap')) ∧ w2.heap.size < (w6.setCell ⟨w2.heap.size, 1, none⟩ (.slice (some ⟨g', 0, none⟩) (nv + 1) cap')).heap.size) := by
            have hl1 : (vs ++ [(y0, y1)]).length = nv + 1 := by simp [hnv]
            have hR6 : Rd B w6 R k3 := h5.kept (fun j hj => b6 j (by rcases hj with hj | hj <;> omega) (by rcases hj with hj | hj <;> omega)) (by omega)
            refine ⟨c - 1, vs ++ [(y0, y1)], some ⟨g', 0, none⟩, cap', k3, hcs, by omega, by omega, fun v hv => ?_, ?_, ?_, by rw [World.frozen?_setCell]; exact f61, ?_, fun g h1 h2 => ?_, hR6.set (p := ⟨w2.heap.size, 1, none⟩) (by simp only; omega) (by simp only; omega) _, by omega, ?_, by rw [World.size_setCell]; omega⟩
            · rcases List.mem_append.1 hv with hv | hv
              · exact HV.out v hv
              · simp at hv; subst hv; exact ⟨by simp only; omega, by simp only; omega⟩
            · rw [World.cell?_setCell_other _ _ _ _ (by intro e; have := congrArg Addr.off e; simp at this)]; exact c60
            · rw [hl1]; exact World.cell?_setCell_same w6 _ _ c61
            · rw [hl1, flatV_snoc]; exact own_set r1 ⟨w2.heap.size, 1, none⟩ _ (by simp only; omega)
            · refine (Below.heap_setCell w6 _ _ g (fun e => by simp only at e; omega)).trans ((b6 g (by omega) (by omega)).trans ((g5'.block g (by omega) (by intro e; simp at e; omega)).trans (HAG.out g h1 h2)))
            · have b5 : Below B w w5 := HB.out.trans ((Below.refl B wr).grown g5' (by omega) (fun j e => by cases e; omega))
              exact Below.setCell (Below.grown (b5.alloc (by omega) _) r2 (by simp; omega) (fun b hb => by have := own_ge HXo.out b hb.symm; omega)) (by simp only; omega) _
          have HRUN : Hid ((Builtin.append_ #[24, 24] 24 #[.slice xa nv xc, .slice (some ⟨w5.heap.size, 0, none⟩) 1 1]).run Try.prog (w5.alloc (.cells #[.bool y0, .int .i64 y1] 32)) = .ok (.slice (some ⟨g', 0, none⟩) (nv + 1) cap') w6) := hrun
          clear hrun r1 r2 own5 b6 e5 e6 g5 g5' h5 s6
          go_wp2_with fail
          try simp only [Act.put, List.getElem_toArray, List.getElem_cons_zero, List.getElem_cons_succ, List.setIfInBounds_toArray, List.set_cons_zero, List.set_cons_succ]
          refine wpAny_ready (rs := [1, 5]) (by kernel_rfl) (by simp) ?_
          refine AllReady.cons rfl (fun K hK => ?_) ?_
          · go_simp
            refine hK _ _ ?_
            clear hK K
            try simp only [Act.put, List.getElem_toArray, List.getElem_cons_zero, List.getElem_cons_succ, List.setIfInBounds_toArray, List.set_cons_zero, List.set_cons_succ]
            refine wpAny_ready (rs := [5]) (by kernel_rfl) (by simp) ?_
            refine AllReady.cons rfl (fun K hK => ?_) AllReady.nil
            go_simp
            refine hK _ _ ?_
            clear hK K
            try simp only [Act.put, List.getElem_toArray, List.getElem_cons_zero, List.getElem_cons_succ, List.setIfInBounds_toArray, List.set_cons_zero, List.set_cons_succ]
            refine wpAny_ready (rs := [6]) (by kernel_rfl) (by simp) ?_
            refine AllReady.cons rfl (fun K hK => ?_) AllReady.nil
            refine op_appP rfl _ _ _ rfl _ _ _ rfl rfl HRUN.out ?_
            refine hK _ _ ?_
            clear hK K
            try simp only [Act.put, List.getElem_toArray, List.getElem_cons_zero, List.getElem_cons_succ, List.setIfInBounds_toArray, List.set_cons_zero, List.set_cons_succ]
            refine wpAny_take (i := 7) (v := .pointer (some ⟨w2.heap.size, 1, none⟩)) rfl (by kernel_rfl) (by kernel_rfl) (by kernel_rfl) (fun _ _ _ h => h) (Or.inl ⟨by rfl, by (intro w; go_simp)⟩) ?_
            try simp only [Act.put, List.getElem_toArray, List.getElem_cons_zero, List.getElem_cons_succ, List.setIfInBounds_toArray, List.set_cons_zero, List.set_cons_succ]
            refine wpAny_ready (rs := [8]) (by kernel_rfl) (by simp) ?_
            refine AllReady.cons rfl (fun K hK => ?_) AllReady.nil
            go_simp
            refine hK _ _ ?_
            clear hK K
            try simp only [Act.put, List.getElem_toArray, List.getElem_cons_zero, List.getElem_cons_succ, List.setIfInBounds_toArray, List.set_cons_zero, List.set_cons_succ]
            refine wpAny_done (by kernel_rfl) ?_ _
            go_wp2_with fail
            obtain ⟨c', vs', xa', xc', k4, f0, fl, f1, f2, f3, f4, f5, f6, f7, f8, f9, f10, f11⟩ := FIN.out
            exact ⟨⟨c', vs', xa', xc', k4, by rw [← f0, hcs], f1, f2, f3, f4, f5, f6, f7, f8, f9, f10, f11⟩, by simp [intOf]; omega⟩
          refine AllReady.cons rfl (fun K hK => ?_) AllReady.nil
          go_simp
          refine hK _ _ ?_
          clear hK K
          try simp only [Act.put, List.getElem_toArray, List.getElem_cons_zero, List.getElem_cons_succ, List.setIfInBounds_toArray, List.set_cons_zero, List.set_cons_succ]
          refine wpAny_ready (rs := [1]) (by kernel_rfl) (by simp) ?_
          refine AllReady.cons rfl (fun K hK => ?_) AllReady.nil
          go_simp
          refine hK _ _ ?_
          clear hK K
          try simp only [Act.put, List.getElem_toArray, List.getElem_cons_zero, List.getElem_cons_succ, List.setIfInBounds_toArray, List.set_cons_zero, List.set_cons_succ]
          refine wpAny_ready (rs := [6]) (by kernel_rfl) (by simp) ?_
          refine AllReady.cons rfl (fun K hK => ?_) AllReady.nil
          refine op_appP rfl _ _ _ rfl _ _ _ rfl rfl HRUN.out ?_
          refine hK _ _ ?_
          clear hK K
          try simp only [Act.put, List.getElem_toArray, List.getElem_cons_zero, List.getElem_cons_succ, List.setIfInBounds_toArray, List.set_cons_zero, List.set_cons_succ]
          refine wpAny_take (i := 7) (v := .pointer (some ⟨w2.heap.size, 1, none⟩)) rfl (by kernel_rfl) (by kernel_rfl) (by kernel_rfl) (fun _ _ _ h => h) (Or.inl ⟨by rfl, by (intro w; go_simp)⟩) ?_
          try simp only [Act.put, List.getElem_toArray, List.getElem_cons_zero, List.getElem_cons_succ, List.setIfInBounds_toArray, List.set_cons_zero, List.set_cons_succ]
          refine wpAny_ready (rs := [8]) (by kernel_rfl) (by simp) ?_
          refine AllReady.cons rfl (fun K hK => ?_) AllReady.nil
          go_simp
          refine hK _ _ ?_
          clear hK K
          try simp only [Act.put, List.getElem_toArray, List.getElem_cons_zero, List.getElem_cons_succ, List.setIfInBounds_toArray, List.set_cons_zero, List.set_cons_succ]
          refine wpAny_done (by kernel_rfl) ?_ _
          go_wp2_with fail
          obtain ⟨c', vs', xa', xc', k4, f0, fl, f1, f2, f3, f4, f5, f6, f7, f8, f9, f10, f11⟩ := FIN.out
          exact ⟨⟨c', vs', xa', xc', k4, by rw [← f0, hcs], f1, f2, f3, f4, f5, f6, f7, f8, f9, f10, f11⟩, by simp [intOf]; omega⟩
        · obtain rfl : c = 0 := by omega
          have O5 : Hid (HpO w.heap.size X va vc L wr) := O2.out.keep (fun g cur t h1 h2 _ => HAG.out g h1 (Array.getElem?_eq_some_iff.1 h2).1)
          have OL : Hid (∀ g, some g = (Value.slice va X.length vc).ownBlock → g < w2.heap.size) := fun g hg => own_lt' O2.out.own g hg.symm
          have E5 : Hid (wr.ownsRow w.heap.size 34 2 (.slice va i vc) i L) := by have := O5.out.own; rw [HX.out] at this; exact this
          generalize hnv : vs.length = nv at *
          have NV : Hid (vs.length = nv) := hnv
          go_wp2_with (at_builtin; refine wpList_append_own _ rfl _ _ 23 rfl w.heap.size 34 j0 _ 2 32 Try.underlying23 hj0 yz0 yz1 yz2 rfl (by decide) (.slice va i vc) i L rfl (E5.out.alloc _) ⟨wr.heap.size, 0, none⟩ 1 1 [.int .i64 (q - 2), .slice xa nv xc] rfl rfl (two_new wr _ _ _ _ rfl) (by simp [Value.oneCell']) (by unfold maxLen; omega) (by omega) (by simp; omega) ?_; intro v' w7 r1 r2 _; obtain ⟨g', cap', rfl⟩ := ownsRow_succ r1)
          have hb7 : ∀ g, g < wr.heap.size → (∀ h, some h = (Value.slice va X.length vc).ownBlock → g ≠ h) → w7.heap[g]? = wr.heap[g]? := fun g h1 h2 => (r2.block g (by simp; omega) (fun e => h2 g (by rw [HX.out]; exact e) rfl)).trans (Below.heap_alloc wr _ g h1)
          have hx7 : w7.ownsRow (w2.heap.size + 1) 32 2 (.slice xa nv xc) nv (flatV vs) := own_keep' HXo.out (fun g hg => hb7 g (own_lt' HXo.out g hg) (fun h hh e => by have := OL.out h hh; have := own_ge HXo.out g hg.symm; omega))
          have ho7 : OutR w7 w.heap.size X X.length L := O5.out.out.keep (fun g cur hg => hb7 g (Array.getElem?_eq_some_iff.1 hg).1 (fun h hh e => by
            subst e
            rcases O5.out.own.2 with ⟨e1, _⟩ | ⟨g2, cap2, cur2, e1, _, hg2, _⟩
            · rw [e1] at hh; simp [Value.ownBlock] at hh
            · rw [e1] at hh
              obtain rfl : g = g2 := by simpa [Value.ownBlock] using hh
              rw [hg2] at hg
              cases hg))
          have hgx : (X ++ [(q - 2, vs)])[X.length]? = some (q - 2, vs) := by simp
          have ho8 : OutR w7 w.heap.size (X ++ [(q - 2, vs)]) (X.length + 1) (L ++ [.int .i64 (q - 2), .slice xa nv xc]) := by
            have h9 : OutR w7 w.heap.size (X ++ [(q - 2, vs)]) X.length L := ⟨ho7.len, fun j x hj hx => ho7.at' j x hj (by rw [List.getElem?_append_left hj] at hx; exact hx)⟩
            exact h9.snoc hgx ⟨by simp only; omega, by simp only; omega⟩ NV.out (own_low hx7 (by omega))
          refine ⟨⟨i + 1, X ++ [(q - 2, vs)], _, _, L ++ [.int .i64 (q - 2), .slice xa nv xc], k2, by omega, by simp [HX.out], by go_num, rfl, ⟨?_, ?_, ?_⟩, ?_, by omega, ?_, ?_⟩, by simp [intOf]; omega⟩
          · rw [List.length_append, HX.out]; exact r1
          · rw [List.length_append]; exact ho8
          · intro x hx
            rcases List.mem_append.1 hx with hx | hx
            · exact O5.out.few x hx
            · simp at hx; subst hx
              exact ⟨by simp only; rw [NV.out]; omega, HV.out⟩
          · exact (HR.out.alloc _).kept (fun j hj => r2.block j (by have := HR.out.size; simp; rcases hj with hj | hj <;> omega) (fun e => by have := own_ge E5.out j e; rcases hj with hj | hj <;> omega)) r2.size
          · exact Below.grown (HB.out.alloc (by omega) _) r2 (by simp; omega) (fun b hb => by have := own_ge E5.out b hb.symm; omega)
          · have := r2.size; simp at this; omega
    · obtain rfl : i = n := by omega
      have EO : Hid (wr.ownsRow w.heap.size 34 2 (.slice va i vc) i L) := by have := HO.out.own; rw [HX.out] at this; exact this
      obtain ⟨wu, rfl⟩ : ∃ wu, wu = wr := ⟨wr, rfl⟩
      have OL : Hid (∀ g, w.heap.size ≤ g → g < wu.heap.size → R ≠ g) := fun g h1 _ => by omega
      go_wp2_with fail
      refine (pick B R k' 5 _ (HR.out.alloc _) (by omega) (by omega)).mono ?_
      rintro e w2 ⟨q, rfl, q0, q1, h2⟩
      obtain ⟨nc, rfl⟩ := Int.eq_ofNat_of_zero_le q0
      have hnc : nc < 5 := by omega
      have R2 : Hid (Rd B w2 R (k' + 1)) := h2.rd
      have G2 : Hid (wu.grownBy w2 (some R)) := gr_trans (gr_alloc wu _ R) h2.gr
      have own2 : Hid (w2.ownsRow wu.heap.size 32 2 (.slice (some ⟨wu.heap.size, 0, none⟩) 0 0) 0 (flatV [])) := own_keep' (own_none (w := wu) wu.heap.size wu.heap.size 32 (Nat.le_refl _) rfl) (fun g hg => h2.block g (fun e => by simp [Value.ownBlock] at hg; omega))
      have s2 : wu.heap.size < w2.heap.size := by rw [h2.size]; simp
      clear h2 q0 q1
      go_wp2_with fail
      go_loopw [9, 10] (fun s t wr => ∃ (c : Nat) (rs : List Vl) (xa : Option Addr) (xc : Nat) (k2 : Nat), t = .int .i64 c ∧ s = .slice xa rs.length xc ∧ c + rs.length ≤ 5 ∧ (∀ v ∈ rs, i64B v.2) ∧ wr.ownsRow wu.heap.size 32 2 (.slice xa rs.length xc) rs.length (flatV rs) ∧ (∀ g, w.heap.size ≤ g → g < wu.heap.size → wr.heap[g]? = wu.heap[g]?) ∧ Rd B wr R k2 ∧ k2 + 3 * c ≤ k' + 1 + 15 ∧ Below B w wr ∧ wu.heap.size < wr.heap.size) (fun _ t _ => (intOf t).toNat)
      case atStart => exact ⟨nc, [], _, _, k' + 1, rfl, rfl, by simp; omega, by simp, own2.out, fun g h1 h2 => G2.out.block g h2 (by intro e; simp at e; omega), R2.out, by omega, HB.out.trans ((Below.refl B wu).grown G2.out (by omega) (fun j e => by cases e; omega)), s2⟩
      case round =>
        obtain ⟨c, rs, xa, xc, k2, rfl, rfl, hcv, hvs, hxo, hag, hrd, hk2, hb, hsr⟩ := hrel
        have HV : Hid (∀ v ∈ rs, i64B v.2) := hvs
        have HXo : Hid (wr.ownsRow wu.heap.size 32 2 (.slice xa rs.length xc) rs.length (flatV rs)) := hxo
        have HAG : Hid (∀ g, w.heap.size ≤ g → g < wu.heap.size → wr.heap[g]? = wu.heap[g]?) := hag
        have HRd : Hid (Rd B wr R k2) := hrd
        have HBw : Hid (Below B w wr) := hb
        clear hvs hxo hag hrd hb
        by_cases hc0 : 0 < c
        · have hcs : (c : Int) - 1 = ((c - 1 : Nat) : Int) := by omega
          generalize hnv : rs.length = nv at *
          go_wp2_with fail
          refine (drawVal B R k2 i _ HRd.out (by omega) (by omega)).mono ?_
          rintro e w5 ⟨y0, y1, k3, rfl, yb0, yb1, h5, hk3, g5⟩
          have R5 : Hid (Rd B w5 R k3) := h5
          have G5 : Hid (wr.grownBy w5 (some R)) := g5
          have own5 : Hid (w5.ownsRow wu.heap.size 32 2 (.slice xa nv xc) nv (flatV rs)) := own_keep' HXo.out (fun g hg => g5.block g (own_lt' HXo.out g hg) (by intro e; have := own_ge HXo.out g hg.symm; simp at e; omega))
          have s5 : wu.heap.size < w5.heap.size := Nat.lt_of_lt_of_le hsr g5.size
          clear h5 g5
          go_wp2_with (at_builtin; refine wpList_append_own _ rfl _ _ 24 rfl wu.heap.size 32 i0 _ 2 16 Try.underlying24 hi0 hz0 hz1 hz2 rfl (by decide) (.slice xa nv xc) nv (flatV rs) rfl (own5.out.alloc _) ⟨w5.heap.size, 0, none⟩ 1 1 [.bool y0, .int .i64 y1] rfl rfl (two_new w5 _ _ _ _ rfl) (by simp [Value.oneCell']) (by unfold maxLen; omega) (by omega) (by simp; omega) ?_; intro v' w6 r1 r2 _; obtain ⟨g', cap', rfl⟩ := ownsRow_succ r1)
          have hl1 : (rs ++ [(y0, y1)]).length = nv + 1 := by simp [hnv]
          have b6 : ∀ g, g < w5.heap.size → g < wu.heap.size → w6.heap[g]? = w5.heap[g]? := fun g h1 h2 => (r2.block g (by simp; omega) (fun e => by have := own_ge own5.out g e; omega)).trans (Below.heap_alloc w5 _ g h1)
          have hs6 := r2.size
          rw [World.size_alloc] at hs6
          refine ⟨⟨c - 1, rs ++ [(y0, y1)], some ⟨g', 0, none⟩, cap', k3, by rw [← hcs], by rw [hl1], by rw [hl1]; omega, fun v hv => ?_, by rw [hl1, flatV_snoc]; exact r1, fun g h1 h2 => ?_, R5.out.kept (fun j hj => b6 j (by rcases hj with hj | hj <;> omega) (by rcases hj with hj | hj <;> omega)) (by omega), by omega, ?_, by omega⟩, by simp [intOf]; omega⟩
          · rcases List.mem_append.1 hv with hv | hv
            · exact HV.out v hv
            · simp at hv; subst hv; exact ⟨by simp only; omega, by simp only; omega⟩
          · exact (b6 g (by omega) h2).trans ((G5.out.block g (by omega) (by intro e; simp at e; omega)).trans (HAG.out g h1 h2))
          · have b5 : Below B w w5 := HBw.out.trans ((Below.refl B wr).grown G5.out (by omega) (fun j e => by cases e; omega))
            exact Below.grown (b5.alloc (by omega) _) r2 (by simp; omega) (fun b hb => by have := own_ge own5.out b hb.symm; omega)
        · obtain rfl : c = 0 := by omega
          have DONE : Hid (∀ (w9 : World) (ra : Option Addr) (r9 : Nat) (rs9 : List Vl), (∀ g, w.heap.size ≤ g → g < wu.heap.size → w9.heap[g]? = wu.heap[g]?) → w9.ownsRow wu.heap.size 32 2 (.slice ra rs9.length r9) rs9.length (flatV rs9) → (∀ v ∈ rs9, i64B v.2) → rs9.length ≤ 8 → SlAt obR (fun b => w.heap.size ≤ b) w9 va i X ∧ SlAt vaR (fun b => w.heap.size ≤ b) w9 ra rs9.length rs9) := by
            intro w9 ra r9 rs9 h1 h2 h3 h4
            have O9 : HpO w.heap.size X va vc L w9 := HO.out.keep (fun g cur t h5 h6 _ => h1 g h5 (Array.getElem?_eq_some_iff.1 h6).1)
            refine ⟨?_, (own_vals h2 h3 (by omega)).mono (fun b hb _ => by omega)⟩
            have := O9.out.sl rfl (by rw [HX.out]; omega) (fun x hx => ⟨by have := (O9.few x hx).1; omega, (O9.few x hx).2⟩) O9.own (Nat.le_refl _)
            rw [HX.out] at this
            exact this
          generalize hnv : rs.length = nv at *
          go_wp2_with fail
          refine (pick B R k2 24 _ HRd.out (by omega) (by omega)).mono ?_
          rintro e w3 ⟨u, rfl, u0, u1, h3⟩
          have R3 : Hid (Rd B w3 R (k2 + 1)) := h3.rd
          have G3 : Hid (wr.grownBy w3 (some R)) := h3.gr
          have own3 : Hid (w3.ownsRow wu.heap.size 32 2 (.slice xa nv xc) nv (flatV rs)) := own_keep' HXo.out (fun g hg => G3.out.block g (own_lt' HXo.out g hg) (by intro e; have := own_ge HXo.out g hg.symm; simp at e; omega))
          have A3 : Hid (∀ g, w.heap.size ≤ g → g < wu.heap.size → w3.heap[g]? = wu.heap[g]?) := fun g h1 h2 => (G3.out.block g (by omega) (by intro e; simp at e; omega)).trans (HAG.out g h1 h2)
          have B3 : Hid (Below B w w3) := HBw.out.trans h3.below
          have s3 : wu.heap.size < w3.heap.size := by rw [h3.size]; exact hsr
          clear h3
          by_cases hu : u = 0
          · subst hu
            go_wp2_with fail
            refine (pick B R (k2 + 1) 2 _ (R3.out.alloc _) (by omega) (by omega)).mono ?_
            rintro e w4 ⟨t, rfl, t0, t1, h4⟩
            obtain ⟨mt, rfl⟩ := Int.eq_ofNat_of_zero_le t0
            have hmt : mt = 0 ∨ mt = 1 := by omega
            have hR3 := R3.out.size
            obtain ⟨z, hz0', hz1', hz⟩ : ∃ z : Int, -1 ≤ z ∧ z ≤ 8 ∧ w4.cell? ⟨w3.heap.size, mt, none⟩ = some (.int .i64 z) := by
              rw [h4.cell _ _ (by omega), World.cell?_alloc_at _ _ _ _ rfl]
              rcases hmt with rfl | rfl
              · exact ⟨-1, by decide, by decide, rfl⟩
              · exact ⟨(i : Int) + 1, by omega, by omega, rfl⟩
            have G4 : Hid (w3.grownBy w4 (some R)) := gr_trans (gr_alloc w3 _ R) h4.gr
            have own4 : Hid (w4.ownsRow wu.heap.size 32 2 (.slice xa nv xc) nv (flatV rs)) := own_keep' own3.out (fun g hg => G4.out.block g (own_lt' own3.out g hg) (by intro e; have := own_ge own3.out g hg.symm; simp at e; omega))
            have A4 : Hid (∀ g, w.heap.size ≤ g → g < wu.heap.size → w4.heap[g]? = wu.heap[g]?) := fun g h1 h2 => (G4.out.block g (by omega) (by intro e; simp at e; omega)).trans (A3.out g h1 h2)
            have B4 : Hid (Below B w w4) := B3.out.trans ((Below.refl B w3).grown G4.out (by omega) (fun j e => by cases e; omega))
            have s4 : wu.heap.size < w4.heap.size := Nat.lt_of_lt_of_le s3 G4.out.size
            have hmt2 : (mt : Int) < 2 := by omega
            clear h4 t0 t1 hmt
            go_wp2_with (at_builtin; refine wpList_append_own _ rfl _ _ 24 rfl wu.heap.size 32 i0 _ 2 16 Try.underlying24 hi0 hz0 hz1 hz2 rfl (by decide) (.slice xa nv xc) nv (flatV rs) rfl (own4.out.alloc _) ⟨w4.heap.size, 0, none⟩ 1 1 [.bool true, .int .i64 z] rfl rfl (two_new w4 _ _ _ _ rfl) (by simp [Value.oneCell']) (by unfold maxLen; omega) (by omega) (by simp; omega) ?_; intro v' w6 r1 r2 _; obtain ⟨g', cap', rfl⟩ := ownsRow_succ r1)
            go_ret2
            have hl1 : (rs ++ [(true, z)]).length = nv + 1 := by simp [hnv]
            obtain ⟨d1, d2⟩ := DONE.out w6 (some ⟨g', 0, none⟩) cap' (rs ++ [(true, z)]) (fun g h1 h2 => ((r2.block g (by simp; omega) (fun e => by have := own_ge own4.out g e; omega)).trans (Below.heap_alloc w4 _ g (by omega))).trans (A4.out g h1 h2)) (by rw [hl1, flatV_snoc]; exact r1) (fun v hv => by
              rcases List.mem_append.1 hv with hv | hv
              · exact HV.out v hv
              · simp at hv; subst hv; exact ⟨by simp only; omega, by simp only; omega⟩) (by omega)
            refine ⟨X, rs ++ [(true, z)], va, vc, some ⟨g', 0, none⟩, cap', ?_, by rw [HX.out]; exact d1, d2, by rw [HX.out]; omega, fun x hx => (HO.out.few x hx).1, by omega, Below.grown (B4.out.alloc (by omega) _) r2 (by simp; omega) (fun b hb => by have := own_ge own4.out b hb.symm; omega)⟩
            rw [HX.out, hl1]; rfl
          · have hu' : (u == 0) = false := by simp [hu]
            go_wp2_with fail
            go_ret2
            obtain ⟨d1, d2⟩ := DONE.out w3 xa xc rs A3.out (by rw [hnv]; exact own3.out) HV.out (by omega)
            refine ⟨X, rs, va, vc, xa, xc, ?_, by rw [HX.out]; exact d1, d2, by rw [HX.out]; omega, fun x hx => (HO.out.few x hx).1, by omega, B3.out⟩
            rw [HX.out, hnv]; rfl

theorem drawGraph (a : Option Addr) (len cap : Nat) (zs : List Int) (w : World) (h : IsRow .u8 w a len cap zs) :
    Calls Try.prog 5 #[.slice a len cap] w fun e w' => ∃ (X : List Ob) (r : List Vl) (a : Option Addr) (c : Nat) (b : Option Addr) (d : Nat), e = .returned (.tuple #[.slice a X.length c, .slice b r.length d]) ∧ SlAt obR (fun b => w.heap.size ≤ b) w' a X.length X ∧ SlAt vaR (fun b => w.heap.size ≤ b) w' b r.length r ∧ X.length ≤ 8 ∧ (∀ x ∈ X, x.2.length ≤ 4) ∧ r.length ≤ 8 ∧ Below w.heap.size w w' := by
  go_enter Try.func5, Try.ntmps5
  go_wp2_with fail
  refine (openRd a len cap zs w h).mono ?_
  rintro e w0 ⟨rfl, r0, b0, s0⟩
  have B0 : Hid (Below w.heap.size w w0) := b0
  clear b0
  go_wp2_with fail
  refine (drawHeap _ _ 0 w0 r0 (by omega)).mono ?_
  rintro e w1 ⟨X, r, oa, oc, ra, rc, rfl, h1, h2, h3, h4, h5, hb⟩
  have H1 : Hid (SlAt obR (fun b => w0.heap.size ≤ b) w1 oa X.length X) := h1
  have H2 : Hid (SlAt vaR (fun b => w0.heap.size ≤ b) w1 ra r.length r) := h2
  have H4 : Hid (∀ x ∈ X, x.2.length ≤ 4) := h4
  have B1 : Hid (Below w.heap.size w w1) := B0.out.trans hb
  clear h1 h2 h4 hb r0
  go_wp2_with fail
  go_ret2
  exact ⟨X, r, oa, oc, ra, rc, rfl, H1.out.mono (fun b hb _ => by omega), H2.out.mono (fun b hb _ => by omega), h3, H4.out, h5, B1.out⟩

end Go.Proofs.Ytacapffmdmpnkaa
