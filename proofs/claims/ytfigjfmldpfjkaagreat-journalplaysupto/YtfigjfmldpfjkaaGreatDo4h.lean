/- One call of the statement's world: kind 4. -/
import Derived.Test.YtfigjfmldpfjkaaGreatZap
import Derived.Deep.RegionLaw
namespace Go.Proofs.YtfigjfmldpfjkaaGreat
open Go.RowKit Go.Sort Go.Shelf

set_option maxHeartbeats 8000000 in
set_option maxRecDepth 100000 in
theorem do_4 {A0 : Nat} {B P : Nat → Prop} {w : World} {gw d g : Nat} {s : JS} {M A : Nat} {r : Rk} {gj gs : Nat} {x : JX} {L : List Ch} (h : KM B P w gw d g (some gj) (some gs) r) (hj : KJ B P w gw d g gj gs x L s M) (hr : RelJ s r M) (hs : Sz s M A) (hlo : Lo A0 B gw g w) (h20 : 20 ≤ M) (kd : Int) (pc : Option Addr) (cc : Nat) (cs : List Ch) (n m : Int) (pi : Option Addr) (ci : Nat) (is : List Int) (pb : Option Addr) (cb : Nat) (bs : List UInt8) (sc : SlIn encC 3 (· < A0) w pc cc cs) (si : SlIn encI 1 (· < A0) w pi ci is) (sb : SlIn encB 1 (· < A0) w pb cb bs) (hM : M + (20 + cs.length * 4130 + bs.length) ≤ 25000000000) (hnn : n ≤ 9223372036854775807) (hk : kd = 4) :
    Calls Tryz.prog 9 #[.pointer (some ⟨gw, 0, none⟩), .agg #[.int .i64 kd, .slice pc cs.length cc, .int .i64 n, .int .i64 m, .slice pi is.length ci, .slice pb bs.length cb]] w fun e w' => e = .returned (.bool true) ∧ ∃ s', KX B P w gw g s' (M + (20 + cs.length * 4130 + bs.length)) (A + 4) w' := by
  obtain ⟨Y, hY⟩ : ∃ Y, w.alloc (.cells #[.int .i64 kd, .slice pc cs.length cc, .int .i64 n, .int .i64 m, .slice pi is.length ci, .slice pb bs.length cb] 42) = Y := ⟨_, rfl⟩
  have bY : Below w.heap.size w Y := by rw [← hY]; exact (Below.refl _ _).alloc (Nat.le_refl _) _
  have kY : Y.heap[w.heap.size]? = some (.cells #[.int .i64 kd, .slice pc cs.length cc, .int .i64 n, .int .i64 m, .slice pi is.length ci, .slice pb bs.length cb] 42 (0, 0)) := by rw [← hY]; exact heap_alloc_new _ _
  have hlY : w.heap.size < Y.heap.size := (Array.getElem?_eq_some_iff.1 kY).1
  have hcells : ∀ W : World, W.heap[w.heap.size]? = Y.heap[w.heap.size]? → ((W.cell? ⟨w.heap.size, 0, none⟩ = some (.int .i64 kd) ∧ W.cell? ⟨w.heap.size, 1, none⟩ = some (.slice pc cs.length cc)) ∧ (W.cell? ⟨w.heap.size, 2, none⟩ = some (.int .i64 n) ∧ W.cell? ⟨w.heap.size, 3, none⟩ = some (.int .i64 m))) ∧ (W.cell? ⟨w.heap.size, 4, none⟩ = some (.slice pi is.length ci) ∧ W.cell? ⟨w.heap.size, 5, none⟩ = some (.slice pb bs.length cb)) := fun W hW => by
    have h1 := hW.trans kY
    refine ⟨⟨⟨?_, ?_⟩, ?_, ?_⟩, ?_, ?_⟩ <;> (unfold World.cell?; rw [h1]; rfl)
  obtain ⟨⟨⟨z0, z1⟩, z2, z3⟩, z4, z5⟩ := hcells Y rfl
  have scY : SlOf encC 3 Y pc cc cs := (sc.kept bY.size fun i _ hl => bY.block i hl).1
  have HC := hide hcells
  have BY := hide bY
  have SCY := hide scY
  have own0 : OwnK encC 63 3 Y.heap.size (Y.alloc (.cells #[] 63)) (some ⟨Y.heap.size, 0, none⟩) 0 [] := by
    have : (flatK encC 3 ([] : List Ch).toArray).toList = [] := by simp [flatK]
    unfold OwnK; rw [this]; exact World.ownsRow_made Y #[] 0 (Nat.le_refl _) (by decide) (by simp)
  have bX : Below Y.heap.size Y (Y.alloc (.cells #[] 63)) := (Below.refl _ _).alloc (Nat.le_refl _) _
  have OW0 := hide own0
  have SCX := hide (scY.below bX).src
  have BX := hide bX
  have HNAT := hide h
  have HLO := hide hlo
  have SC := hide sc
  have SI := hide si
  have SB := hide sb
  have hks : KS B P w gw d g s M A := ⟨r, hr, hs, Or.inr ⟨gj, gs, x, L, h, hj⟩⟩
  have HGS := hide hks.gs
  have HKJ := hide hj
  have HR := hide hr
  have HS := hide hs
  have HK := hide hk
  clear hcells bY scY own0 bX h hlo sc si sb kY hks hj hr hs hk
  obtain ⟨MM, hMM⟩ : ∃ MM, M + (20 + cs.length * 4130 + bs.length) = MM := ⟨_, rfl⟩
  rw [hMM]
  rw [hMM] at hM
  go_enter Tryz.func9, Tryz.ntmps9
  go_upto_block 0 with (at_builtin; refine wpList_appC rfl _ _ rfl Y.heap.size (some ⟨Y.heap.size, 0, none⟩) 0 [] pc cc cs 0 cs.length cs.length rfl rfl (Nat.zero_add _) rfl rfl (unhide OW0) (unhide SCX) (by unfold maxLen; omega) (by omega) (unhide BX).size ?_; intro q2 c2 w2 o2 g2 _; have O2 := hide o2; have G2 := hide g2; clear o2 g2)
  replace O2 : Hid (OwnK encC 63 3 Y.heap.size w2 q2 c2 cs) := O2
  have B2 : Hid (Below Y.heap.size Y w2) := hide (by
    have hb := unhide BX
    have g2 := unhide G2
    refine ⟨g2.os.trans hb.os, g2.tape.trans hb.tape, g2.output.trans hb.output, Nat.le_trans hb.size g2.size, fun i hi => (g2.block i (Nat.lt_of_lt_of_le hi hb.size) (fun e => ?_)).trans (hb.block i hi)⟩
    have e2 : i = Y.heap.size := by injection e
    omega)
  have b2 : Below w.heap.size w w2 := below_sub (unhide BY) (unhide B2)
  obtain ⟨B1, hB1⟩ : ∃ B1, moreB B w w2 = B1 := ⟨_, rfl⟩
  have hgl : g < w.heap.size := (unhide HNAT).gl
  have hwl : gw < w.heap.size := (unhide HNAT).lt
  have hw2 : w.heap.size < w2.heap.size := Nat.lt_of_lt_of_le hlY (unhide B2).size
  have hl0 := (unhide HLO)
  have hGS := unhide HGS
  have k2 : w2.heap[w.heap.size]? = Y.heap[w.heap.size]? := (unhide B2).block _ hlY
  have hc3 : w2.cell? ⟨gw, 3, none⟩ = w.cell? ⟨gw, 3, none⟩ := cell_same (b2.block gw hwl)
  have hqb : ∀ p, q2 = some p → w.heap.size ≤ p.block ∧ p.block < w2.heap.size := fun p hp => by
    obtain ⟨h1, cur, hc⟩ := own_cellsG (unhide O2) hp
    exact ⟨by omega, (Array.getElem?_eq_some_iff.1 hc).1⟩
  have hkp : ∀ s' M' A' V, KX B1 P w2 gw g s' M' A' V → Kpt (fun i => w.heap.size ≤ i ∨ i < A0) w2 V := fun s' M' A' V hx => by
    obtain ⟨d', g', _, B', P', _, _, hk, _⟩ := hx
    refine ⟨hk.os, hk.tape, hk.output, hk.size, fun i hi hl => hk.block i ⟨?_, ?_, ?_, fun e => ?_⟩ hl⟩
    · rw [← hB1]
      rcases hi with hi | hi
      · exact Or.inr ⟨hi, hl⟩
      · exact Or.inl (hl0.all i hi)
    · have := hl0.og
      omega
    · have := hl0.ow
      omega
    · rw [hc3] at e
      have h1 := hGS i e
      have h2 := hl0.os i e
      omega
  have hinp : ∀ i, i < A0 → B1 i ∧ i ≠ g ∧ i ≠ gw := fun i hi => by
    have h1 := hl0.og
    have h2 := hl0.ow
    exact ⟨by rw [← hB1]; exact Or.inl (hl0.all i hi), by omega, by omega⟩
  have scW : SlIn encC 3 (· < A0) w2 pc cc cs := (unhide SC).kept b2.size fun i _ hl => b2.block i hl
  have siW : SlIn encI 1 (· < A0) w2 pi ci is := (unhide SI).kept b2.size fun i _ hl => b2.block i hl
  have sbW : SlIn encB 1 (· < A0) w2 pb cb bs := (unhide SB).kept b2.size fun i _ hl => b2.block i hl
  have hfin : ∀ s' V, KX B1 P w2 gw g s' MM (A + 4) V → ((V.heap[w.heap.size]? = Y.heap[w.heap.size]? ∧ OwnK encC 63 3 Y.heap.size V q2 c2 cs) ∧ SlOf encC 3 V pc cc cs) ∧ ∀ V1 V2, Below V.heap.size V V1 → V1.grownBy V2 (q2.map (·.block)) → Calls Tryz.prog 34 #[.pointer (some ⟨gw, 0, none⟩)] V2 fun e w' => e = .returned (.bool true) ∧ ∃ s', KX B P w gw g s' MM (A + 4) w' := fun s' V hx => by
    have hk := hkp s' _ _ V hx
    refine ⟨⟨⟨(hk.block _ (Or.inl (Nat.le_refl _)) hw2).trans k2, own_sameG (unhide O2) fun p hp => hk.block _ (Or.inl (hqb p hp).1) (hqb p hp).2⟩, (scW.kept hk.size fun i hi hl => hk.block i (Or.inr hi) hl).1⟩, fun V1 V2 b1 gg => ?_⟩
    rw [← hB1] at hx
    have hx1 := KX.turn (hx.below b1 (Nat.lt_of_lt_of_le (Nat.lt_trans hwl hw2) hk.size)) (unhide HNAT) hGS b2 hqb gg
    have hx2 := hx1
    obtain ⟨d', g', _, B', P', hks, _⟩ := hx1
    refine (wsame_any hks (by omega)).mono ?_
    rintro e w' ⟨e1, e2⟩
    exact ⟨e1, s', hx2.below e2 (Nat.lt_of_lt_of_le (Nat.lt_trans hwl hw2) (Nat.le_trans hk.size (Nat.le_trans b1.size gg.size)))⟩
  have HKP := hide hkp
  have HINP := hide hinp
  have SCW := hide scW
  have SIW := hide siW
  have SBW := hide sbW
  have HFIN := hide hfin
  have HB1 := hide hB1
  have BW2 := hide b2
  obtain ⟨⟨⟨z0, z1⟩, z2, z3⟩, z4, z5⟩ := unhide HC w2 k2
  have hbx : ∀ V, Kpt (fun i => w.heap.size ≤ i ∨ i < A0) w2 V → V.heap[w.heap.size]? = Y.heap[w.heap.size]? := fun V hk => (hk.block _ (Or.inl (Nat.le_refl _)) hw2).trans k2
  have HBX := hide hbx
  have km2 : KM B1 P w2 gw d g (some gj) (some gs) r := by rw [← hB1]; exact (unhide HNAT).more b2
  have kj2 : KJ B1 P w2 gw d g gj gs x L s M := by rw [← hB1]; exact (unhide HKJ).more b2
  obtain ⟨⟨y0, y1, y2, y3⟩, yf⟩ := cellsW km2.box
  replace y1 : w2.cell? ⟨gw, 1, none⟩ = some (.pointer (some ⟨gj, 0, none⟩)) := y1
  replace y3 : w2.cell? ⟨gw, 3, none⟩ = some (.pointer (some ⟨gs, 0, none⟩)) := y3
  have KM2 := hide km2
  have KJ2 := hide kj2
  have h1 : ∀ W, Below w2.heap.size w2 W → Calls Tryz.prog 10 #[.pointer (some ⟨d, 0, none⟩), .int .i64 n, .int .i64 m] W fun e V => e = .returned (.int .i64 (if s.off then 40 else 0)) ∧ P1 B1 w2 gj d (armJ s n m) x V := fun W hb => karm1_some km2 kj2 n m hnn hb
  have h2 : ∀ V, P1 B1 w2 gj d (armJ s n m) x V → Calls Tryz.prog 27 #[.pointer (some ⟨g, 0, none⟩), .int .i64 n, .int .i64 m] V fun e V2 => e = .returned (.int .i64 (if s.off then 40 else 0)) ∧ KE B1 P w2 gw g d g (armJ s n m) M A V2 := fun V hp => karm2_some km2 kj2 (unhide HR) (unhide HS) n m hnn hp
  have h3 : ∀ V, P1 B1 w2 gj d (armJ s n m) x V → ((V.cell? ⟨gw, 0, none⟩ = some (.pointer (some ⟨d, 0, none⟩)) ∧ V.cell? ⟨gw, 2, none⟩ = some (.pointer (some ⟨g, 0, none⟩))) ∧ (V.cell? ⟨w.heap.size, 2, none⟩ = some (.int .i64 n) ∧ V.cell? ⟨w.heap.size, 3, none⟩ = some (.int .i64 m))) := fun V hp => by
    obtain ⟨⟨u0, u1, u2, u3⟩, _⟩ := hp.box km2
    have hB : V.heap[w.heap.size]? = w2.heap[w.heap.size]? := hp.2.block _ (by rw [← hB1]; exact Or.inr ⟨Nat.le_refl _, hw2⟩) hw2
    obtain ⟨⟨⟨v0, v1⟩, v2, v3⟩, v4, v5⟩ := unhide HC V (hB.trans k2)
    exact ⟨⟨u0, u2⟩, v2, v3⟩
  have h4 : ∀ V, KE B1 P w2 gw g d g (armJ s n m) M A V → ((V.cell? ⟨gw, 0, none⟩ = some (.pointer (some ⟨d, 0, none⟩)) ∧ V.cell? ⟨gw, 2, none⟩ = some (.pointer (some ⟨g, 0, none⟩))) ∧ (V.cell? ⟨w.heap.size, 2, none⟩ = some (.int .i64 n) ∧ V.cell? ⟨w.heap.size, 3, none⟩ = some (.int .i64 m))) := fun V hp => by
    obtain ⟨⟨⟨v0, v1⟩, v2, v3⟩, v4, v5⟩ := unhide HC V (hbx V (hkp _ _ _ V (KE.kx hp)))
    obtain ⟨B', P', hks', _⟩ := hp
    obtain ⟨j0, s0, r0, km', _⟩ := hks'.any
    obtain ⟨⟨u0, u1, u2, u3⟩, _⟩ := cellsW km'.box
    exact ⟨⟨u0, u2⟩, v2, v3⟩
  have h5 : ∀ V, KE B1 P w2 gw g d g (armJ s n m) M A V → ∃ s', KX B1 P w2 gw g s' MM (A + 4) V := fun V hp => ⟨_, KX.mono hp.kx (by omega) (by omega)⟩
  have H1 := hide h1
  have H2 := hide h2
  have H3 := hide h3
  have H4 := hide h4
  have H5 := hide h5
  obtain ⟨E, hE⟩ : ∃ E, (if s.off then (40 : Int) else 0) = E := ⟨_, rfl⟩
  obtain ⟨S1, hS1⟩ : ∃ S1, armJ s n m = S1 := ⟨_, rfl⟩
  rw [hE, hS1] at H1
  rw [hE, hS1] at H2
  rw [hS1] at H3
  rw [hS1] at H4
  rw [hS1] at H5
  clear km2 kj2 h1 h2 h3 h4 h5 hE hS1
  clear hbx k2 hc3 hqb hkp hinp scW siW sbW hfin hB1 b2 hl0 hGS HNAT SC SI SB OW0 SCX BX hY
  go_cut [6] from 7 (fun v V => v = .bool true ∧ Hid (∃ s', KX B1 P w2 gw g s' MM (A + 4) V))
  case first =>
    have e4 : (kd == 4) = true := beq_iff_eq.2 (unhide HK)
    go_wp2_with fail
    go_region_held3 (fun V => ((V.cell? ⟨gw, 0, none⟩ = some (.pointer (some ⟨d, 0, none⟩)) ∧ V.cell? ⟨gw, 2, none⟩ = some (.pointer (some ⟨g, 0, none⟩))) ∧ (V.cell? ⟨w.heap.size, 2, none⟩ = some (.int .i64 n) ∧ V.cell? ⟨w.heap.size, 3, none⟩ = some (.int .i64 m)))) (first | exact unhide H4 _ (unhide X2) | (exact ⟨⟨y0, y2⟩, z2, z3⟩) | exact unhide H3 _ (unhide X1) | exact unhide H3 _ ((unhide X1).below (Below.refl _ _).drew) | assumption) (first
      | (go_at_call 10; refine (unhide H1 _ (by first | exact Below.refl _ _ | exact (Below.refl _ _).drew | exact (Below.refl _ _).drew.drew)).mono ?_; rintro e u1 ⟨rfl, x1⟩; have X1 := hide x1; clear x1)
      | (go_at_call 27; refine (unhide H2 _ (by first | exact unhide X1 | exact (unhide X1).below (Below.refl _ _).drew | exact (unhide X1).below (Below.refl _ _).drew.drew)).mono ?_; rintro e u2 ⟨rfl, x2⟩; have X2 := hide x2; clear x2))
    all_goals
      go_wp2
      go_meet
      first
        | exact ⟨rfl, hide (unhide H5 _ (unhide X2))⟩
        | exact ⟨by simp, hide (unhide H5 _ (unhide X2))⟩
  case rest =>
    obtain ⟨rfl, HX⟩ := hcut
    obtain ⟨V, rfl⟩ : ∃ V, V = wc := ⟨_, rfl⟩
    obtain ⟨s', hx⟩ := unhide HX
    obtain ⟨⟨⟨hbo, hmi⟩, hch⟩, hen⟩ := unhide HFIN s' V hx
    obtain ⟨⟨⟨z0, z1⟩, _⟩, _⟩ := unhide HC V hbo
    have hsame := sameC_any q2 pc c2 cc cs cs V hmi.ls hch (by omega) (by omega)
    rw [decide_eq_true rfl] at hsame
    have HSAME := hide hsame
    have HEN := hide hen
    have HMI := hide hmi
    clear hx hbo hmi hch hen hsame HX HFIN
    go_wp2_with (go_at_call 18; refine (unhide HSAME).mono ?_; rintro e w4 ⟨rfl, b4⟩; have B4 := hide b4; have O4 := hide ((unhide HMI).below b4); clear b4)
    have hst := hide (TnC.start (unhide O4))
    go_loopw [150] (fun i wr => ∃ t : Nat, t ≤ cs.length ∧ i = .int .i64 (t : Int) ∧ Hid (TnC w4 q2 cs.length wr)) (fun i _ => cs.length - (intOf i).toNat)
    case atStart => exact ⟨0, Nat.zero_le _, rfl, hst⟩
    case round =>
      obtain ⟨t, ht, rfl, HT⟩ := hrel
      by_cases htl : t < cs.length
      · obtain ⟨ax, hax, ⟨m0, hm0⟩, hf0⟩ := (unhide HT).row (t * 3) (by omega)
        obtain ⟨ax1, hax1, ⟨m1, hm1⟩, hf1⟩ := (unhide HT).row (t * 3 + 1) (by omega)
        obtain ⟨ax2, hax2, ⟨m2, hm2⟩, hf2⟩ := (unhide HT).row (t * 3 + 2) (by omega)
        obtain rfl : ax1 = ax := by rw [hax] at hax1; injection hax1 with e; injection e with e; exact e.symm
        obtain rfl : ax2 = ax1 := by rw [hax] at hax2; injection hax2 with e; injection e with e; exact e.symm
        have t0 : (0 : Int) ≤ (t : Int) := by omega
        have t1 : (t : Int) < (cs.length : Int) := by omega
        have HTS := hide (fun a b c => (((unhide HT).set (t := t * 3) hax a).set (t := t * 3 + 1) hax b).set (t := t * 3 + 2) hax c)
        subst hax
        go_wp2
        go_roundw
        case rel => exact ⟨t + 1, by omega, by go_num, hide (unhide HTS _ _ _)⟩
        case measure => simp [intOf]; omega
      · obtain rfl : t = cs.length := by omega
        have t1 : ¬ (cs.length : Int) < (cs.length : Int) := by omega
        go_wp2_with (go_at_call 34; refine (unhide HEN w4 wr (unhide B4) (unhide HT).grown).mono ?_; rintro e w9 ⟨rfl, x9⟩; have X9 := hide x9; clear x9)
        go_ret
        exact ⟨rfl, unhide X9⟩
end Go.Proofs.YtfigjfmldpfjkaaGreat
