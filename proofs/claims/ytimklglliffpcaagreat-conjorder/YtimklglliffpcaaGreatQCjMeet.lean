/- conj.Meet of one predicate and more. -/
import Derived.Test.YtimklglliffpcaaGreatQZae
import Derived.Deep.Cut
namespace Go.Proofs.YtimklglliffpcaaGreat
open Go.RowKit Go.Sort Go.Shelf

set_option maxHeartbeats 4000000 in
set_option maxRecDepth 100000 in
theorem meet_cons (q : Option Addr) (c : Nat) (p0 : Pd) (ps : List Pd) (w : World) (h : PdsOf w q c (p0 :: ps)) (hs : Small (p0 :: ps)) (hl : ps.length ≤ 100000000) (hc1 : c ≠ 1) (hBA : BothAny) :
    Calls Tryz.prog 14 #[.slice q (ps.length + 1) c] w fun e w' => (∃ r : Pv, e = .returned (.tuple #[.agg #[.int .i64 r.kind, .string r.attr, .slice r.qi r.ni r.ci, .slice r.qw r.nw r.cw, .int .i64 r.lo, .int .i64 r.hi], .bool (meetD (p0 :: ps)).isSome]) ∧ PdOwn w.heap.size w' r ((meetD (p0 :: ps)).getD zeroD)) ∧ Below w.heap.size w w' := by
  obtain ⟨b, off, u0, hq, hb, hu0, c0, c1, c2, c3, c4, c5⟩ := h.at (j := 0) (p := p0) rfl
  subst hq
  obtain ⟨hcl, hcm⟩ := h.cap
  rw [List.length_cons] at hcl
  obtain ⟨R, hR⟩ : ∃ R, meetD (p0 :: ps) = R := ⟨_, rfl⟩
  rw [hR]
  have HR0 := hide (show meetGo (normD p0) ps = R from hR)
  obtain ⟨X, HX⟩ : ∃ X, w.alloc (.cells #[.int .i64 0, .string ⟨#[]⟩, .slice none 0 0, .slice none 0 0, .int .i64 0, .int .i64 0] 26) = X := ⟨_, rfl⟩
  have bX : Below w.heap.size w X := by rw [← HX]; exact (Below.refl _ _).alloc (Nat.le_refl _) _
  have x8 : X.heap[w.heap.size]? = some (.cells #[.int .i64 0, .string ⟨#[]⟩, .slice none 0 0, .slice none 0 0, .int .i64 0, .int .i64 0] 26 (0, 0)) := by rw [← HX]; exact World.alloc_heap_new _ _
  have sX : X.heap.size = w.heap.size + 1 := by rw [← HX]; simp
  have hbel := Below.refl X.heap.size X
  simp only [Nat.zero_mul, Nat.add_zero] at c0 c1 c2 c3 c4 c5
  have d0 := ((below_sub bX hbel).cell (p := ⟨b, _, none⟩) hb).trans c0
  have d1 := ((below_sub bX hbel).cell (p := ⟨b, _, none⟩) hb).trans c1
  have d2 := ((below_sub bX hbel).cell (p := ⟨b, _, none⟩) hb).trans c2
  have d3 := ((below_sub bX hbel).cell (p := ⟨b, _, none⟩) hb).trans c3
  have d4 := ((below_sub bX hbel).cell (p := ⟨b, _, none⟩) hb).trans c4
  have d5 := ((below_sub bX hbel).cell (p := ⟨b, _, none⟩) hb).trans c5
  have hN0 := normal_tight u0 p0 X (hu0.keep bX) (hs p0 (by simp))
  unfold Pv.val at hN0
  have i1 : (1 : Int) ≤ (ps.length : Int) + 1 := by omega
  have i2 : (ps.length : Int) + 1 ≤ (c : Int) := by omega
  have i3 : ((ps.length : Int) + 1 == 0) = false := by rw [beq_eq_false_iff_ne]; omega
  have i4 : (0 : Int) < (ps.length : Int) + 1 := by omega
  have i5 : (1 : Int) ≤ (c : Int) := by omega
  have i6 : (ps.length : Int) + 1 ≤ 100000001 := by omega
  obtain ⟨x0, x1, x2, x3, x4, x5⟩ := of6C x8
  have xf := fun o => frozen_free (o := o) x8
  have BX := hide bX
  have X8 := hide x8
  have HH := hide h
  have HS := hide hs
  clear bX x8 h hs hR c0 c1 c2 c3 c4 c5 hbel
  go_enter Tryz.func14, Tryz.ntmps14
  go_upto_region 4 with (go_at_call 16; refine hN0.mono ?_; rintro e w1 ⟨⟨r0, rfl, ho0, ht0⟩, b1⟩; have B1 := hide b1; have O0 := hide ho0; have T0 := hide ht0; clear b1 ho0 ht0)
  obtain ⟨Y, HY⟩ : ∃ Y, w1.alloc (.cells #[.int .i64 r0.kind, .string r0.attr, .slice r0.qi r0.ni r0.ci, .slice r0.qw r0.nw r0.cw, .int .i64 r0.lo, .int .i64 r0.hi] 26) = Y := ⟨_, rfl⟩
  rw [HY]
  have y8 : Y.heap[w1.heap.size]? = some (.cells #[.int .i64 r0.kind, .string r0.attr, .slice r0.qi r0.ni r0.ci, .slice r0.qw r0.nw r0.cw, .int .i64 r0.lo, .int .i64 r0.hi] 26 (0, 0)) := by rw [← HY]; exact World.alloc_heap_new _ _
  have bY : Below w1.heap.size w1 Y := by rw [← HY]; exact (Below.refl _ _).alloc (Nat.le_refl _) _
  have s1 := (unhide B1).size
  have BY := hide (below_sub (unhide B1) bY)
  have OY := hide ((unhide O0).below bY)
  have Y8 := hide y8
  obtain ⟨M, hM⟩ : ∃ M, w1.heap.size = M := ⟨_, rfl⟩
  rw [hM] at Y8 s1 ⊢
  have HM0 := hide (off_new (M := M) (unhide O0) (unhide T0) (by omega))
  clear y8 bY HY d0 d1 d2 d3 d4 d5 x0 x1 x2 x3 x4 x5 xf hN0 hM
  go_wp2
  go_loopw [5, 24] (fun ok iv wr => ∃ (k : Nat) (r : Pv) (o : Option Pd), k ≤ ps.length ∧ ok = .bool o.isSome ∧ iv = .int .i64 k ∧ Hid (meetGo o (ps.drop k) = R) ∧ Hid (wr.heap[M]? = some (.cells #[.int .i64 r.kind, .string r.attr, .slice r.qi r.ni r.ci, .slice r.qw r.nw r.cw, .int .i64 r.lo, .int .i64 r.hi] 26 (0, 0))) ∧ Hid (PdOwn X.heap.size wr r (o.getD zeroD)) ∧ Hid (∀ m, o = some m → Gd m) ∧ Hid (Off r (fun j => j = M)) ∧ Hid (Below X.heap.size X wr)) (fun _ iv _ => ps.length - (intOf iv).toNat)
  case atStart => exact ⟨0, r0, normD p0, Nat.zero_le _, rfl, rfl, HR0, Y8, OY, hide (fun m hm => gd_norm (unhide HS p0 (by simp)) hm), HM0, BY⟩
  case round =>
    obtain ⟨k, r, o, hk, rfl, rfl, HR, KM, HP, HG, HO, HB⟩ := hrel
    have lM : M < wr.heap.size := (Array.getElem?_eq_some_iff.1 (unhide KM)).1
    have sB := (unhide HB).size
    have hXM : X.heap.size ≤ M := by omega
    by_cases hlt : k < ps.length
    · obtain ⟨p, hp, hpd⟩ := get_at hlt
      obtain ⟨b2, off2, uq, hq2, hb2, huq, c0, c1, c2, c3, c4, c5⟩ := (unhide HH).at (j := k + 1) (p := p) (by simpa using hp)
      cases hq2
      have eo : off + (k + 1) * 6 = off + 6 + k * 6 := by omega
      rw [eo] at c0 c1 c2 c3 c4 c5
      have bw := below_sub (unhide BX) ((unhide HB).mono (Nat.le_refl _))
      have g0 := (bw.cell (p := ⟨b, _, none⟩) hb).trans c0
      have g1 := (bw.cell (p := ⟨b, _, none⟩) hb).trans c1
      have g2 := (bw.cell (p := ⟨b, _, none⟩) hb).trans c2
      have g3 := (bw.cell (p := ⟨b, _, none⟩) hb).trans c3
      have g4 := (bw.cell (p := ⟨b, _, none⟩) hb).trans c4
      have g5 := (bw.cell (p := ⟨b, _, none⟩) hb).trans c5
      have k0 : (0 : Int) ≤ (k : Int) := by omega
      have k1 : (k : Int) < (ps.length : Int) := by omega
      have HSP := hide (unhide HS p (List.mem_cons_of_mem _ (List.mem_of_getElem? hp)))
      obtain ⟨W1, HW1⟩ : ∃ W1, wr.alloc (.cells #[.int .i64 uq.kind, .string uq.attr, .slice uq.qi uq.ni uq.ci, .slice uq.qw uq.nw uq.cw, .int .i64 uq.lo, .int .i64 uq.hi] 26) = W1 := ⟨_, rfl⟩
      have b1 : Below wr.heap.size wr W1 := by rw [← HW1]; exact (Below.refl _ _).alloc (Nat.le_refl _) _
      have w8 : W1.heap[wr.heap.size]? = some (.cells #[.int .i64 uq.kind, .string uq.attr, .slice uq.qi uq.ni uq.ci, .slice uq.qw uq.nw uq.cw, .int .i64 uq.lo, .int .i64 uq.hi] 26 (0, 0)) := by rw [← HW1]; exact World.alloc_heap_new _ _
      obtain ⟨e0, e1, e2, e3, e4, e5⟩ := of6C w8
      have hN := normal_tight uq p W1 (huq.keep (below_sub bw b1)) (unhide HSP)
      unfold Pv.val at hN
      have HR1 := hide (show meetGo o (p :: ps.drop (k + 1)) = R by rw [← hpd]; exact unhide HR)
      have BW1 := hide b1
      clear c0 c1 c2 c3 c4 c5 eo bw hp hpd huq w8 b1
      go_upto_region 8 with (go_at_call 16; refine hN.mono ?_; rintro e w2 ⟨⟨r2, rfl, ho2, ht2⟩, bb2⟩; have B2 := hide bb2; have O2 := hide ho2; have TT2 := hide ht2; (obtain ⟨W3, HW3⟩ : ∃ W3, w2.alloc (.cells #[.int .i64 r2.kind, .string r2.attr, .slice r2.qi r2.ni r2.ci, .slice r2.qw r2.nw r2.cw, .int .i64 r2.lo, .int .i64 r2.hi] 26) = W3 := ⟨_, rfl⟩); clear bb2 ho2 ht2)
      have b3 : Below w2.heap.size w2 W3 := by rw [← HW3]; exact (Below.refl _ _).alloc (Nat.le_refl _) _
      have q3 : W3.heap[w2.heap.size]? = some (.cells #[.int .i64 r2.kind, .string r2.attr, .slice r2.qi r2.ni r2.ci, .slice r2.qw r2.nw r2.cw, .int .i64 r2.lo, .int .i64 r2.hi] 26 (0, 0)) := by rw [← HW3]; exact World.alloc_heap_new _ _
      have bW3 := below_sub (unhide BW1) (below_sub (unhide B2) b3)
      have KM3 := hide ((bW3.block M lM).trans (unhide KM))
      have K83 := hide q3
      have HP3 := hide ((unhide HP).below bW3)
      have HP2 := hide ((unhide O2).below b3)
      have HB3 := hide (below_sub (unhide HB) bW3)
      have l83 : w2.heap.size < W3.heap.size := (Array.getElem?_eq_some_iff.1 q3).1
      have sW1 := (unhide BW1).size
      have sw2 := (unhide B2).size
      obtain ⟨f0, f1, f2, f3, f4, f5⟩ := of6C (unhide KM3)
      obtain ⟨h0, h1, h2, h3, h4, h5⟩ := of6C (unhide K83)
      have q8 := ((unhide HB3).block w.heap.size (by omega)).trans (unhide X8)
      obtain ⟨x0, x1, x2, x3, x4, x5⟩ := of6C q8
      have xf := fun o => frozen_free (o := o) q8
      have BF := hide ((unhide BX).trans ((unhide HB3).mono (by omega)))
      clear b3 q3 bW3 q8 hN e0 e1 e2 e3 e4 e5 g0 g1 g2 g3 g4 g5 HW3 HW1
      cases o with
      | none =>
        have HRN := hide (show none = R by rw [← unhide HR1]; rfl)
        go_wp2
        exact bodyPost_ret (v := .tuple #[.agg #[.int .i64 0, .string ⟨#[]⟩, .slice none 0 0, .slice none 0 0, .int .i64 0, .int .i64 0], .bool false]) (by simp [results, Tryz.results14, go_sem, *]) rfl ⟨⟨zeroP, by rw [← unhide HRN]; rfl, by rw [← unhide HRN]; exact zeroD_own _ _⟩, (((((((unhide BF).setCell (p := ⟨w.heap.size, 0, none⟩) (Nat.le_refl _) _).setCell (p := ⟨w.heap.size, 1, none⟩) (Nat.le_refl _) _).setCell (p := ⟨w.heap.size, 2, none⟩) (Nat.le_refl _) _).setCell (p := ⟨w.heap.size, 3, none⟩) (Nat.le_refl _) _).setCell (p := ⟨w.heap.size, 4, none⟩) (Nat.le_refl _) _).setCell (p := ⟨w.heap.size, 5, none⟩) (Nat.le_refl _) _)⟩
      | some m =>
        cases hnq : normD p with
        | none =>
          have HRN := hide (show none = R by rw [← unhide HR1]; simp [meetGo, hnq])
          rw [hnq] at HP2
          clear hnq
          go_wp2
          exact bodyPost_ret (v := .tuple #[.agg #[.int .i64 0, .string ⟨#[]⟩, .slice none 0 0, .slice none 0 0, .int .i64 0, .int .i64 0], .bool false]) (by simp [results, Tryz.results14, go_sem, *]) rfl ⟨⟨zeroP, by rw [← unhide HRN]; rfl, by rw [← unhide HRN]; exact zeroD_own _ _⟩, (((((((unhide BF).setCell (p := ⟨w.heap.size, 0, none⟩) (Nat.le_refl _) _).setCell (p := ⟨w.heap.size, 1, none⟩) (Nat.le_refl _) _).setCell (p := ⟨w.heap.size, 2, none⟩) (Nat.le_refl _) _).setCell (p := ⟨w.heap.size, 3, none⟩) (Nat.le_refl _) _).setCell (p := ⟨w.heap.size, 4, none⟩) (Nat.le_refl _) _).setCell (p := ⟨w.heap.size, 5, none⟩) (Nat.le_refl _) _)⟩
        | some nn =>
          rw [hnq] at HP2 TT2 O2
          have hat1 : r2.attr = nn.attr := (unhide HP2).1.2.1
          have hat2 : r.attr = m.attr := (unhide HP3).1.2.1
          by_cases hatt : nn.attr = m.attr
          · have heq : (r2.attr.toList == r.attr.toList) = true := by rw [hat1, hat2, hatt]; simp
            have HRK := hide (show meetGo (bothD m nn) (ps.drop (k + 1)) = R by rw [← unhide HR1]; simp [meetGo, hnq, hatt])
            have hOff2 := off_new (M := M) (u := r2) (unhide O2) (unhide TT2)
            have hC := hBA r r2 m nn X.heap.size W3 (unhide HB3).size (unhide HP3) ((unhide HP2).mono (by omega)) (unhide HG m rfl) (gd_norm (unhide HSP) hnq) (fun x y hx hy => by
              have i1 := own_lt (unhide HP) x hx
              have i2 := own_ge2 (unhide HP2) y hy
              omega) (fun j => j = M) (fun j hj => by omega) (unhide HO) (off_lt (unhide HP2) (fun j hj => by omega))
            unfold Pv.val at hC
            have HGN := hide (fun z (hz : bothD m nn = some z) => gd_both (unhide HG m rfl) (gd_norm (unhide HSP) hnq) hz)
            clear hnq hat1 hat2 hatt hOff2
            go_wp2_with (go_at_call 50; refine hC.mono ?_; rintro e w4 ⟨⟨r4, rfl, ho4, hof4⟩, b4, hk4⟩; have O4 := hide ho4; have OF4 := hide hof4; have B4 := hide b4; have KM4 := hide ((hk4 M rfl).trans (unhide KM3)); clear f0 f1 f2 f3 f4 f5; (obtain ⟨f0, f1, f2, f3, f4, f5⟩ := of6C (unhide KM4)); have ff := fun o => frozen_free (o := o) (unhide KM4); clear ho4 hof4 b4 hk4)
            go_roundw
            case rel => exact ⟨k + 1, r4, bothD m nn, by omega, rfl, by go_num, HRK, hide (box_set6 (unhide KM4) _ _ _ _ _ _), hide ((((((((unhide O4).setC (unhide OF4) rfl 0 _).setC (unhide OF4) rfl 1 _).setC (unhide OF4) rfl 2 _).setC (unhide OF4) rfl 3 _).setC (unhide OF4) rfl 4 _).setC (unhide OF4) rfl 5 _)), HGN, OF4, hide ((((((((unhide HB3).trans (unhide B4)).setCell (p := ⟨M, 0, none⟩) hXM _).setCell (p := ⟨M, 1, none⟩) hXM _).setCell (p := ⟨M, 2, none⟩) hXM _).setCell (p := ⟨M, 3, none⟩) hXM _).setCell (p := ⟨M, 4, none⟩) hXM _).setCell (p := ⟨M, 5, none⟩) hXM _)⟩
            case measure => simp [intOf]; omega
          · have heq : (r2.attr.toList == r.attr.toList) = false := toList_ne (by rw [hat1, hat2]; exact hatt)
            have HRN := hide (show none = R by rw [← unhide HR1]; simp [meetGo, hnq, hatt])
            clear hnq hat1 hat2 hatt
            go_wp2
            exact bodyPost_ret (v := .tuple #[.agg #[.int .i64 0, .string ⟨#[]⟩, .slice none 0 0, .slice none 0 0, .int .i64 0, .int .i64 0], .bool false]) (by simp [results, Tryz.results14, go_sem, *]) rfl ⟨⟨zeroP, by rw [← unhide HRN]; rfl, by rw [← unhide HRN]; exact zeroD_own _ _⟩, (((((((unhide BF).setCell (p := ⟨w.heap.size, 0, none⟩) (Nat.le_refl _) _).setCell (p := ⟨w.heap.size, 1, none⟩) (Nat.le_refl _) _).setCell (p := ⟨w.heap.size, 2, none⟩) (Nat.le_refl _) _).setCell (p := ⟨w.heap.size, 3, none⟩) (Nat.le_refl _) _).setCell (p := ⟨w.heap.size, 4, none⟩) (Nat.le_refl _) _).setCell (p := ⟨w.heap.size, 5, none⟩) (Nat.le_refl _) _)⟩

    · have k1 : ¬ (k : Int) < (ps.length : Int) := by omega
      have HRE := hide (show o = R by rw [← unhide HR, List.drop_eq_nil_of_le (by omega : ps.length ≤ k)]; cases o <;> rfl)
      obtain ⟨f0, f1, f2, f3, f4, f5⟩ := of6C (unhide KM)
      have q8 := ((unhide HB).block w.heap.size (by omega)).trans (unhide X8)
      obtain ⟨x0, x1, x2, x3, x4, x5⟩ := of6C q8
      have xf := fun o => frozen_free (o := o) q8
      have HPF := hide (unhide HP)
      have HNF := hide (show Off r (fun j => j = w.heap.size) from off_lt (unhide HP) (fun k hk => by omega))
      have BF := hide ((unhide BX).trans ((unhide HB).mono (by omega)))
      clear q8
      go_wp2
      exact bodyPost_ret (v := .tuple #[.agg #[.int .i64 r.kind, .string r.attr, .slice r.qi r.ni r.ci, .slice r.qw r.nw r.cw, .int .i64 r.lo, .int .i64 r.hi], .bool o.isSome]) (by simp [results, Tryz.results14, go_sem, *]) rfl ⟨⟨r, by rw [← unhide HRE], by rw [← unhide HRE]; exact ((((((((unhide HPF).setC (unhide HNF) rfl 0 _).setC (unhide HNF) rfl 1 _).setC (unhide HNF) rfl 2 _).setC (unhide HNF) rfl 3 _).setC (unhide HNF) rfl 4 _).setC (unhide HNF) rfl 5 _)).mono (by omega)⟩, (((((((unhide BF).setCell (p := ⟨w.heap.size, 0, none⟩) (Nat.le_refl _) _).setCell (p := ⟨w.heap.size, 1, none⟩) (Nat.le_refl _) _).setCell (p := ⟨w.heap.size, 2, none⟩) (Nat.le_refl _) _).setCell (p := ⟨w.heap.size, 3, none⟩) (Nat.le_refl _) _).setCell (p := ⟨w.heap.size, 4, none⟩) (Nat.le_refl _) _).setCell (p := ⟨w.heap.size, 5, none⟩) (Nat.le_refl _) _)⟩
end Go.Proofs.YtimklglliffpcaaGreat
