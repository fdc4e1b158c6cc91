/- The reference's disk: Crash, the walk. -/
import Derived.Test.YtfigjfmldpfjkaaGreatZad
import Derived.Deep.Cut
import Derived.Deep.CutBlock
namespace Go.Proofs.YtfigjfmldpfjkaaGreat
open Go.RowKit Go.Sort Go.Shelf

theorem grownB11 {a b c : World} {o : Nat} (h : a.grownBy b (some o)) (hb : Below b.heap.size b c) : a.grownBy c (some o) :=
  ⟨hb.os.trans h.os, hb.tape.trans h.tape, hb.output.trans h.output, Nat.le_trans h.size hb.size, fun i hi hne => (hb.block i (Nat.lt_of_lt_of_le hi h.size)).trans (h.block i hi hne)⟩
theorem rmod_b (n : Int) (m : Nat) (hm : 0 < m) (hm2 : m ≤ 200000000000000) (w : World) :
    Calls Tryz.prog 92 #[.int .i64 n, .int .i64 (m : Int)] w fun e w' => e = .returned (.int .i64 ((modZ n m : Nat) : Int)) ∧ Below w.heap.size w w' :=
  (rmod_any n m hm hm2 w).mono (by rintro e w' ⟨h1, rfl⟩; exact ⟨h1, Below.refl _ _⟩)
theorem ch_in {cs : List Int} {k : Nat} {y : Int} (h : cs[k]? = some y) : chAt cs k = y := by unfold chAt; rw [h]; rfl
theorem ch_out {cs : List Int} {k : Nat} (h : ¬ k < cs.length) : chAt cs k = 0 := by unfold chAt; rw [List.getElem?_eq_none (by omega)]; rfl
set_option maxHeartbeats 8000000 in
set_option maxRecDepth 100000 in
theorem rcrash_any {P : Nat → Prop} {w : World} {g c : Nat} {r : Rk} {q : Option Addr} (h : RIn P w g r q c) (p : Option Addr) (kc : Nat) (cs : List Int) (hc : SlOf encI 1 w p kc cs) (hpg : 0 < cs.length → ∀ a, p = some a → a.block ≠ g) (hl : r.fs.length ≤ 1000000) (hla : ∀ x ∈ r.fs, x.la ≤ x.bs.length ∧ x.bs.length ≤ 30000000000000) (_hcl : cs.length ≤ 30000000000000) :
    Calls Tryz.prog 54 #[.pointer (some ⟨g, 0, none⟩), .slice p cs.length kc] w fun e w' => e = .returned (.pointer (some ⟨w.heap.size, 0, none⟩)) ∧ (∃ L, CrF r.fs cs L r.fs.length ∧ RAt (fun i => w.heap.size < i) w' w.heap.size ⟨L, 0, false, 0, 0⟩) ∧ RAt P w' g { r with off := true } ∧ w.grownBy w' (some g) := by
  have mixed : Tryz.prog.follows .mixedOrders = true := by kernel_rfl
  have e43 : ∀ args w, (callFunc 92 args).run Tryz.prog w = .ok (.enter 92 args) w := enters_of Tryz.func92 (by kernel_rfl) rfl
  obtain ⟨⟨c0, c1, c2, c3, c4⟩, z0, z1, z2, z3⟩ := cells5 h.box
  have hgl := h.glt
  have k1 := heap_setCell_same w g 2 _ 30 (.bool true) h.box
  have g1 := grown_set w g 2 (.bool true)
  have i1 : RIn (fun i => P i ∧ i < w.heap.size) (w.setCell ⟨g, 2, none⟩ (.bool true)) g { r with off := true } q c := h.cut.turn g1 rfl h.small k1
  have hs1 : (w.setCell ⟨g, 2, none⟩ (.bool true)).heap.size = w.heap.size := by simp
  obtain ⟨w2, hw2⟩ : ∃ w2, (w.setCell ⟨g, 2, none⟩ (.bool true)).alloc (.cells #[.slice none 0 0, .int .i64 0, .bool false, .int .i64 0, .int .i64 0] 30) = w2 := ⟨_, rfl⟩
  have b2 : Below w.heap.size (w.setCell ⟨g, 2, none⟩ (.bool true)) w2 := by rw [← hw2]; exact (Below.refl _ _).alloc (by rw [hs1]; exact Nat.le_refl _) _
  have k2 : w2.heap[w.heap.size]? = some (.cells #[.slice none 0 0, .int .i64 0, .bool false, .int .i64 0, .int .i64 0] 30 (0, 0)) := by
    rw [← hw2]
    have := heap_alloc_new (w.setCell ⟨g, 2, none⟩ (.bool true)) (.cells #[.slice none 0 0, .int .i64 0, .bool false, .int .i64 0, .int .i64 0] 30)
    rw [hs1] at this
    exact this
  have hs2 : w2.heap.size = w.heap.size + 1 := by rw [← hw2]; simp
  have i2 := i1.below (by rw [hs1]; exact b2)
  have hcr : ∀ V, w2.grownBy V (some w.heap.size) → RIn (fun i => P i ∧ i < w.heap.size) V g { r with off := true } q c := fun V gV => i2.kept gV.size fun i hi hil => gV.block i hil (by intro e; injection e with e; rcases hi with hi | hi <;> omega)
  have hcg : ∀ V, w2.grownBy V (some w.heap.size) → V.cell? ⟨g, 0, none⟩ = some (.slice q r.fs.length c) := fun V gV => (cells5 (hcr V gV).box).1.1
  have hcc : ∀ V, w2.grownBy V (some w.heap.size) → SlOf encI 1 V p kc cs := fun V gV => by
    have s0 : SlIn encI 1 (fun i => i ≠ g ∧ i < w.heap.size) w p kc cs := (show SlIn encI 1 (fun i => i ≠ g) w p kc cs from ⟨hc, hpg⟩).mono fun i hi hil => ⟨hi, hil⟩
    have s1 := s0.kept g1.size fun i hi hil => g1.block i hil (by intro e; injection e with e; exact hi.1 e)
    have s2 := s1.kept b2.size fun i hi _ => b2.block i hi.2
    exact (s2.kept gV.size fun i hi hil => gV.block i hil (by intro e; injection e with e; have := hi.2; omega)).1
  have gw : ∀ V, w2.grownBy V (some w.heap.size) → w.grownBy V (some g) := fun V gV => ⟨gV.os.trans (b2.os.trans g1.os), gV.tape.trans (b2.tape.trans g1.tape), gV.output.trans (b2.output.trans g1.output), by have := gV.size; omega, fun i hi hne => (gV.block i (by omega) (by intro e; injection e with e; omega)).trans ((b2.block i hi).trans (g1.block i hi hne))⟩
  have hpP : ∀ V, w2.grownBy V (some w.heap.size) → RAt P V g { r with off := true } := fun V gV => ⟨q, c, (hcr V gV).mono (fun i hi _ => hi.1) h.pg⟩
  have init : CrI w2 w.heap.size r.fs cs 0 w2 none 0 [] := ⟨⟨rfl, fun j x y _ hy => by simp at hy⟩, k2, OwnK.nil _ _, fun y hy => by simp at hy, grown_refl _ _⟩
  have HCR := hide hcr
  have HCG := hide hcg
  have HCC := hide hcc
  have HGW := hide gw
  have HPP := hide hpP
  have INIT := hide init
  have HLA := hide hla
  have HS2 := hide hs2
  have hol : w.heap.size < w2.heap.size := by omega
  clear h hc hpg i1 k1 g1 b2 k2 i2 hcr hcg hcc gw hpP init hla hs2 c0 c1 c3 c4 z0 z1 z3
  go_enter Tryz.func54, Tryz.ntmps54
  go_wp2
  go_loopw [6] (fun v6 wr => ∃ (k : Nat) (q2 : Option Addr) (cap : Nat) (L : List Rf), k ≤ r.fs.length ∧ v6 = .int .i64 (k : Int) ∧ Hid (CrI w2 w.heap.size r.fs cs k wr q2 cap L)) (fun v6 _ => r.fs.length - (intOf v6).toNat)
  case atStart => exact ⟨0, none, 0, [], Nat.zero_le _, rfl, INIT⟩
  case round =>
    obtain ⟨k, q2, cap, L, hk, rfl, HI⟩ := hrel
    have gr := (unhide HI).grown
    have hsr := gr.size
    have cg0 := unhide HCG wr gr
    by_cases hlt : k < r.fs.length
    · obtain ⟨x, hx, _⟩ := get_at hlt
      obtain ⟨hx1, hx2⟩ := unhide HLA x (List.mem_of_getElem? hx)
      have ki0 : (0 : Int) ≤ (k : Int) := by omega
      have ki1 : (k : Int) < (r.fs.length : Int) := by omega
      obtain ⟨b, off, hq, _, d0, d1, d2⟩ := fileAt (unhide HCR wr gr).row.1 hx
      have sx := (unhide HCR wr gr).file x (List.mem_of_getElem? hx)
      have hxc := sx.1.2.1
      obtain ⟨Y, hY, bY, kY⟩ := box3 wr (.string x.nm) (.slice x.p x.bs.length x.c) (.int .i64 (x.la : Int))
      obtain ⟨y0, y1, y2⟩ := cellsF3 kY
      have gY := grownB11 gr bY
      have sY := unhide HCC Y gY
      obtain ⟨ch, hch⟩ : ∃ ch, chAt cs k = ch := ⟨_, rfl⟩
      have hmo := fun (W : World) => rmod_b ch (x.bs.length - x.la + 1) (by omega) (by omega) W
      obtain ⟨K, hK⟩ : ∃ K, keptN (flOf x) ch = K := ⟨_, rfl⟩
      have hKd : x.la + modZ ch (x.bs.length - x.la + 1) = K := hK
      have hKl : K ≤ x.bs.length := by have := modZ_lt ch (show 0 < x.bs.length - x.la + 1 by omega); omega
      obtain ⟨L1, hL1⟩ : ∃ L1, x.bs.length - x.la + 1 = L1 := ⟨_, rfl⟩
      rw [hL1] at hmo hKd
      obtain ⟨M, hM⟩ : ∃ M, modZ ch L1 = M := ⟨_, rfl⟩
      simp only [hM] at hmo
      rw [hM] at hKd
      obtain ⟨L0, hL0⟩ : ∃ L0, x.bs.length - x.la = L0 := ⟨_, rfl⟩
      have a1 : (x.bs.length : Int) - (x.la : Int) = (L0 : Int) := by omega
      have a2 : IntKind.i64.wrap (L0 : Int) = (L0 : Int) := wrap_nat _ (by omega)
      have a3 : (L0 : Int) + 1 = (L1 : Int) := by omega
      have a4 : IntKind.i64.wrap (L1 : Int) = (L1 : Int) := wrap_nat _ (by omega)
      have a5 : (x.la : Int) + (M : Int) = (K : Int) := by omega
      have a6 : IntKind.i64.wrap (K : Int) = (K : Int) := wrap_nat _ (by omega)
      have a7 : (0 : Int) ≤ (K : Int) := by omega
      have a8 : (K : Int) ≤ (x.c : Int) := by omega
      have a9 : K ≤ x.c := by omega
      have htl : (x.bs.take K).length = K := by rw [List.length_take]; omega
      have q0 := cell_regrown y0
      have q1 := cell_regrown y1
      have q2' := cell_regrown y2
      have hfo : flOf (⟨x.nm, none, 0, x.bs.take K, K⟩ : Rf) = foundF (flOf x) ch := by show (⟨x.bs.take K, K⟩ : Fl) = ⟨x.bs.take (keptN (flOf x) ch), keptN (flOf x) ch⟩; rw [hK]
      have HFO := hide hfo
      have HCH := hide hch
      have HX := hide hx
      have BY := hide bY
      have KY := hide kY
      have GR := hide gr
      have SX := hide (sx.1.below bY)
      have hrb : wr.heap.size < Y.heap.size := (Array.getElem?_eq_some_iff.1 kY).1
      have hoy : w.heap.size < wr.heap.size := by omega
      have HROW := hide (unhide HI).row
      have HBOX := hide (unhide HI).box
      have HLN := hide (unhide HI).cr.1
      subst hq
      clear hx sx hxc hK hKd hL1 hM hL0 hfo bY kY gr gY hx1
      have hsc : k < cs.length ∨ ¬ k < cs.length := Decidable.em _
      go_upto_block 1 with fail
      go_cut [7, 8, 9] from 13 to 63 (fun s7 s8 s9 V => ∃ (q4 : Option Addr) (c4' : Nat) (q5 : Option Addr) (c5 : Nat), Hid (CrI w2 w.heap.size r.fs cs (k + 1) V q5 c5 (L ++ [⟨x.nm, q4, c4', x.bs.take K, K⟩])))
      case rest =>
        obtain ⟨q4, c4', q5, c5, HST⟩ := hcut
        go_wp2
        go_roundw
        case rel => exact ⟨k + 1, q5, c5, L ++ [⟨x.nm, q4, c4', x.bs.take K, K⟩], by omega, by go_num, HST⟩
        case measure => simp [intOf]; omega
      go_upto_if 32 with fail
      go_cut [8] from 29 to 63 (fun s8 V => s8 = .int .i64 ch ∧ V = Y)
      case first =>
        rcases hsc with hkc | hkc
        · obtain ⟨yc, hyc, _⟩ := get_at hkc
          obtain ⟨b2, off2, hq2, _, cy⟩ := intAt sY hyc
          have hye : yc = ch := by rw [← unhide HCH, ch_in hyc]
          subst hye
          subst hq2
          have kc1 : (k : Int) < (cs.length : Int) := by omega
          clear sY hyc
          go_wp2
          go_meet
          exact ⟨rfl, rfl⟩
        · have hye : (0 : Int) = ch := by rw [← unhide HCH, ch_out hkc]
          subst hye
          have kc1 : ¬ (k : Int) < (cs.length : Int) := by omega
          clear sY
          go_wp2
          go_meet
          exact ⟨rfl, rfl⟩
      case rest =>
        obtain ⟨rfl, hwc⟩ := hcut
        have hwc2 := hwc.symm
        subst hwc2
        clear sY
        go_wp2
        refine wp_region_quiet_below (by assumption) (by kernel_rfl) ?_
        repeat (go_big_quiet_step (first | (go_at_fn 92; refine Calls.regrown_of (hmo _))))
        refine wpQuiet_nil ?_
        intro wQ hw'
        obtain ⟨⟨dq, osq⟩, hw''⟩ := hw'
        have bQ := below_regrown Y dq osq
        rw [← hw''] at bQ
        clear hw''
        have bQr := (unhide BY).trans (bQ.mono (Nat.le_of_lt hrb))
        have hks : ∀ V, Below wQ.heap.size wQ V → (V.cell? ⟨wr.heap.size, 0, none⟩ = some (.string x.nm) ∧ V.cell? ⟨wr.heap.size, 1, none⟩ = some (.slice x.p x.bs.length x.c) ∧ V.cell? ⟨w.heap.size, 0, none⟩ = some (.slice q2 k cap)) ∧ V.frozen? ⟨w.heap.size, 0, none⟩ = false := fun V bV => by
          have f1 := cellsF3 ((bV.block wr.heap.size (Nat.lt_of_lt_of_le hrb bQ.size)).trans ((bQ.block wr.heap.size hrb).trans (unhide KY)))
          have f2 := (bV.block w.heap.size (by have := bQr.size; omega)).trans ((bQr.block w.heap.size hoy).trans (unhide HBOX))
          exact ⟨⟨f1.1, f1.2.1, (cells5 f2).1.1⟩, frozen_free f2⟩
        have bA : Below wQ.heap.size wQ (wQ.alloc (.cells #[] 5)) := (Below.refl _ _).alloc (Nat.le_refl _) _
        have oA : OwnK encB 5 1 wQ.heap.size (wQ.alloc (.cells #[] 5)) (some ⟨wQ.heap.size, 0, none⟩) 0 ([] : List UInt8) := OwnK.made _ _ (Nat.le_refl _)
        have sA : SrcK encB 1 (wQ.alloc (.cells #[] 5)) x.p x.c (x.bs.take K) := (sl_take (((unhide SX).below bQ).below bA) K).src
        have BA := hide bA
        have OA := hide oA
        have SA := hide sA
        have HKS := hide hks
        have BQR := hide bQr
        obtain ⟨⟨m0, m1, m2⟩, m3⟩ := hks wQ (Below.refl _ _)
        obtain ⟨⟨n0, n1, n2⟩, n3⟩ := hks _ bA
        have HROWQ := hide ((unhide HROW).below bQr)
        clear bQ bQr hks bA oA sA
        have hln := unhide HLN
        go_wp2
        go_region_law (first
          | (refine step_app rowF (by rfl) (.tmp 50) (.tmp 61) (by rfl) (w.heap.size + 1) q2 cap L (some ⟨w4.heap.size, 0, none⟩) 1 [⟨x.nm, q4, c4', x.bs.take K, K⟩] k 1 (k + 1) hln rfl rfl (by rfl) (by rfl) (own_heap (by rfl) (unhide R4)) (src_heap (by rfl) (unhide S4)) (by unfold maxLen; omega) (by omega) (by have := unhide Z4; exact this) ?_; intro q5 c5 w5 o5 _ _ g5; have g5' : F.grownBy w5 (Value.slice q2 k cap).ownBlock := ⟨g5.os, g5.tape, g5.output, g5.size, g5.block⟩; have O5 := hide o5; have G5 := hide g5'; obtain ⟨u8, u9⟩ := unhide HF5 w5 g5'; clear o5 g5 g5')
          | (refine step_app rowB (by rfl) (.tmp 53) (.tmp 57) (by rfl) wQ.heap.size (some ⟨wQ.heap.size, 0, none⟩) 0 [] x.p x.c (x.bs.take K) 0 K K rfl htl (Nat.zero_add _) (by rfl) (by rfl) (own_heap (by rfl) (unhide OA)) (src_heap (by rfl) (unhide SA)) (by unfold maxLen; omega) (by omega) (unhide BA).size ?_; intro q4 c4' w4 o4 b4 _ _; have b4' : Below wQ.heap.size wQ w4 := Below.trans (by first | exact unhide BA | exact (unhide BA).drew | exact (unhide BA).drew.drew) b4; obtain ⟨⟨v0, v1, v2⟩, v3⟩ := unhide HKS w4 b4'; obtain ⟨F, hF, bF0, kF⟩ := box3 w4 (.string x.nm) (.slice q4 K c4') (.int .i64 (K : Int)); have bF : Below wQ.heap.size wQ F := b4'.trans (bF0.mono b4'.size); obtain ⟨⟨u0, u1, u2⟩, u3⟩ := unhide HKS F bF; have R4 := hide ((unhide HROWQ).below bF); have S4 := hide (srcF (x := ⟨x.nm, q4, c4', x.bs.take K, K⟩) (by simp only [htl]; exact kF)); have Z4 : Hid (w.heap.size + 1 ≤ F.heap.size) := hide (by have a := bF.size; have b := (unhide BQR).size; omega); have O4 : Hid (OwnK encB 5 1 wr.heap.size F q4 c4' (x.bs.take K)) := hide ((o4.below bF0).mono (unhide BQR).size); have BF := hide ((unhide BQR).trans (bF.mono (unhide BQR).size)); have HF5 : Hid (∀ w5, F.grownBy w5 (Value.slice q2 k cap).ownBlock → w5.cell? ⟨w.heap.size, 0, none⟩ = some (.slice q2 k cap) ∧ w5.frozen? ⟨w.heap.size, 0, none⟩ = false) := hide (fun w5 g5 => by
              have rF := (unhide HROWQ).below bF
              have f2 := (bF.block w.heap.size (by have := (unhide BQR).size; omega)).trans (((unhide BQR).block w.heap.size hoy).trans (unhide HBOX))
              have f3 := ((g5.block w.heap.size (Array.getElem?_eq_some_iff.1 f2).1 (fun e => by
                obtain ⟨pp, hpp, hbb⟩ := ownBlock_of q2 k cap _ e.symm
                have := (own_type rF hpp).1
                omega)).trans f2)
              exact ⟨(cells5 f3).1.1, frozen_free f3⟩); clear o4 b4 b4' bF0 bF kF))
        all_goals
          have hst := (unhide HI).step (y := ⟨x.nm, q4, c4', x.bs.take K, K⟩) (unhide BF) (unhide O4) (unhide HX) rfl (by rw [unhide HCH]; exact unhide HFO) hoy (by have := unhide HS2; omega) (unhide O5) (unhide G5)
          have HST := hide hst
          clear hst
          go_wp2
          go_meet
          exact ⟨q4, c4', q5, c5, HST⟩
    · obtain rfl : k = r.fs.length := by omega
      have ki1 : ¬ (r.fs.length : Int) < (r.fs.length : Int) := by omega
      clear gr
      go_wp2
      go_ret
      have hI := unhide HI
      refine ⟨rfl, ⟨L, hI.cr, q2, cap, ⟨Nat.lt_irrefl _, by simp, ?_, hI.row.sl.mono (fun i hi _ => hi), fun y hy => (hI.file y hy).sl.mono (fun i hi _ => hi)⟩⟩, unhide HPP wr hI.grown, unhide HGW wr hI.grown⟩
      have hb := hI.box
      rw [← hI.cr.1] at hb
      exact hb
end Go.Proofs.YtfigjfmldpfjkaaGreat
