/- One call of the statement's world: kind 7. -/
import Derived.Test.YtfigjfmldpfjkaaGreatZap
import Derived.Test.YtfigjfmldpfjkaaGreatBit
import Derived.Deep.RegionLaw
namespace Go.Proofs.YtfigjfmldpfjkaaGreat
open Go.RowKit Go.Sort Go.Shelf

set_option maxHeartbeats 8000000 in
set_option maxRecDepth 100000 in
theorem do_7 {A0 : Nat} {B P : Nat → Prop} {w : World} {gw d g : Nat} {s : JS} {M A : Nat} {j0 s0 : Option Nat} {r : Rk} (h : KM B P w gw d g j0 s0 r) (hd : JAt B w d s) (hr : RelJ s r M) (hs : Sz s M A) (hgs : ∀ gs, w.cell? ⟨gw, 3, none⟩ = some (.pointer (some ⟨gs, 0, none⟩)) → gs < w.heap.size) (hlo : Lo A0 B gw g w) (h20 : 20 ≤ M) (hA : A ≤ 4000) (kd : Int) (pc : Option Addr) (cc : Nat) (cs : List Ch) (n m : Int) (pi : Option Addr) (ci : Nat) (is : List Int) (pb : Option Addr) (cb : Nat) (bs : List UInt8) (sc : SlIn encC 3 (· < A0) w pc cc cs) (si : SlIn encI 1 (· < A0) w pi ci is) (sb : SlIn encB 1 (· < A0) w pb cb bs) (hM : M + (20 + cs.length * 4130 + bs.length) ≤ 25000000000) (hil : is.length ≤ 25000000000) (hk : kd = 7) :
    Calls Tryz.prog 9 #[.pointer (some ⟨gw, 0, none⟩), .agg #[.int .i64 kd, .slice pc cs.length cc, .int .i64 n, .int .i64 m, .slice pi is.length ci, .slice pb bs.length cb]] w fun e w' => e = .returned (.bool true) ∧ ∃ s', KX B P w gw g s' (M + (20 + cs.length * 4130 + bs.length)) (A + 4) w' := by
  obtain ⟨Y, hY⟩ : ∃ Y, w.alloc (.cells #[.int .i64 kd, .slice pc cs.length cc, .int .i64 n, .int .i64 m, .slice pi is.length ci, .slice pb bs.length cb] 42) = Y := ⟨_, rfl⟩
  have bY : Below w.heap.size w Y := by rw [← hY]; exact (Below.refl _ _).alloc (Nat.le_refl _) _
  have kY : Y.heap[w.heap.size]? = some (.cells #[.int .i64 kd, .slice pc cs.length cc, .int .i64 n, .int .i64 m, .slice pi is.length ci, .slice pb bs.length cb] 42 (0, 0)) := by rw [← hY]; exact heap_alloc_new _ _
  have hlY : w.heap.size < Y.heap.size := (Array.getElem?_eq_some_iff.1 kY).1
  have hcells : ∀ W : World, W.heap[w.heap.size]? = Y.heap[w.heap.size]? → ((W.cell? ⟨w.heap.size, 0, none⟩ = some (.int .i64 kd) ∧ W.cell? ⟨w.heap.size, 1, none⟩ = some (.slice pc cs.length cc)) ∧ (W.cell? ⟨w.heap.size, 2, none⟩ = some (.int .i64 n) ∧ W.cell? ⟨w.heap.size, 3, none⟩ = some (.int .i64 m))) ∧ (W.cell? ⟨w.heap.size, 4, none⟩ = some (.slice pi is.length ci) ∧ W.cell? ⟨w.heap.size, 5, none⟩ = some (.slice pb bs.length cb)) := fun W hW => by
    have h1 := hW.trans kY
    refine ⟨⟨⟨?_, ?_⟩, ?_, ?_⟩, ?_, ?_⟩ <;> (unfold World.cell?; rw [h1]; rfl)
  obtain ⟨⟨⟨z0, z1⟩, z2, z3⟩, z4, z5⟩ := hcells Y rfl
  have scY : SlOf encC 3 Y pc cc cs := (sc.kept bY.size fun i _ hl => bY.block i hl).1
  have HC := hide hcells
  have BY := hide bY
  have SCY := hide scY
  have own0 : OwnK encC 63 3 Y.heap.size (Y.alloc (.cells #[] 63)) (some ⟨Y.heap.size, 0, none⟩) 0 [] := by
    have : (flatK encC 3 ([] : List Ch).toArray).toList = [] := by simp [flatK]
    unfold OwnK; rw [this]; exact World.ownsRow_made Y #[] 0 (Nat.le_refl _) (by decide) (by simp)
  have bX : Below Y.heap.size Y (Y.alloc (.cells #[] 63)) := (Below.refl _ _).alloc (Nat.le_refl _) _
  have OW0 := hide own0
  have SCX := hide (scY.below bX).src
  have BX := hide bX
  have HNAT := hide h
  have HLO := hide hlo
  have SC := hide sc
  have SI := hide si
  have SB := hide sb
  have HGS := hide hgs
  have HD := hide hd
  have HR := hide hr
  have HS := hide hs
  have HK := hide hk
  clear hcells bY scY own0 bX h hlo sc si sb kY hgs hd hr hs hk
  obtain ⟨MM, hMM⟩ : ∃ MM, M + (20 + cs.length * 4130 + bs.length) = MM := ⟨_, rfl⟩
  rw [hMM]
  rw [hMM] at hM
  go_enter Tryz.func9, Tryz.ntmps9
  go_upto_block 0 with (at_builtin; refine wpList_appC rfl _ _ rfl Y.heap.size (some ⟨Y.heap.size, 0, none⟩) 0 [] pc cc cs 0 cs.length cs.length rfl rfl (Nat.zero_add _) rfl rfl (unhide OW0) (unhide SCX) (by unfold maxLen; omega) (by omega) (unhide BX).size ?_; intro q2 c2 w2 o2 g2 _; have O2 := hide o2; have G2 := hide g2; clear o2 g2)
  replace O2 : Hid (OwnK encC 63 3 Y.heap.size w2 q2 c2 cs) := O2
  have B2 : Hid (Below Y.heap.size Y w2) := hide (by
    have hb := unhide BX
    have g2 := unhide G2
    refine ⟨g2.os.trans hb.os, g2.tape.trans hb.tape, g2.output.trans hb.output, Nat.le_trans hb.size g2.size, fun i hi => (g2.block i (Nat.lt_of_lt_of_le hi hb.size) (fun e => ?_)).trans (hb.block i hi)⟩
    have e2 : i = Y.heap.size := by injection e
    omega)
  have b2 : Below w.heap.size w w2 := below_sub (unhide BY) (unhide B2)
  obtain ⟨B1, hB1⟩ : ∃ B1, moreB B w w2 = B1 := ⟨_, rfl⟩
  have hgl : g < w.heap.size := (unhide HNAT).gl
  have hwl : gw < w.heap.size := (unhide HNAT).lt
  have hw2 : w.heap.size < w2.heap.size := Nat.lt_of_lt_of_le hlY (unhide B2).size
  have hl0 := (unhide HLO)
  have hGS := unhide HGS
  have k2 : w2.heap[w.heap.size]? = Y.heap[w.heap.size]? := (unhide B2).block _ hlY
  have hc3 : w2.cell? ⟨gw, 3, none⟩ = w.cell? ⟨gw, 3, none⟩ := cell_same (b2.block gw hwl)
  have hqb : ∀ p, q2 = some p → w.heap.size ≤ p.block ∧ p.block < w2.heap.size := fun p hp => by
    obtain ⟨h1, cur, hc⟩ := own_cellsG (unhide O2) hp
    exact ⟨by omega, (Array.getElem?_eq_some_iff.1 hc).1⟩
  have hkp : ∀ s' M' A' V, KX B1 P w2 gw g s' M' A' V → Kpt (fun i => w.heap.size ≤ i ∨ i < A0) w2 V := fun s' M' A' V hx => by
    obtain ⟨d', g', _, B', P', _, _, hk, _⟩ := hx
    refine ⟨hk.os, hk.tape, hk.output, hk.size, fun i hi hl => hk.block i ⟨?_, ?_, ?_, fun e => ?_⟩ hl⟩
    · rw [← hB1]
      rcases hi with hi | hi
      · exact Or.inr ⟨hi, hl⟩
      · exact Or.inl (hl0.all i hi)
    · have := hl0.og
      omega
    · have := hl0.ow
      omega
    · rw [hc3] at e
      have h1 := hGS i e
      have h2 := hl0.os i e
      omega
  have hinp : ∀ i, i < A0 → B1 i ∧ i ≠ g ∧ i ≠ gw := fun i hi => by
    have h1 := hl0.og
    have h2 := hl0.ow
    exact ⟨by rw [← hB1]; exact Or.inl (hl0.all i hi), by omega, by omega⟩
  have scW : SlIn encC 3 (· < A0) w2 pc cc cs := (unhide SC).kept b2.size fun i _ hl => b2.block i hl
  have siW : SlIn encI 1 (· < A0) w2 pi ci is := (unhide SI).kept b2.size fun i _ hl => b2.block i hl
  have sbW : SlIn encB 1 (· < A0) w2 pb cb bs := (unhide SB).kept b2.size fun i _ hl => b2.block i hl
  have hfin : ∀ s' V, KX B1 P w2 gw g s' MM (A + 4) V → ((V.heap[w.heap.size]? = Y.heap[w.heap.size]? ∧ OwnK encC 63 3 Y.heap.size V q2 c2 cs) ∧ SlOf encC 3 V pc cc cs) ∧ ∀ V1 V2, Below V.heap.size V V1 → V1.grownBy V2 (q2.map (·.block)) → Calls Tryz.prog 34 #[.pointer (some ⟨gw, 0, none⟩)] V2 fun e w' => e = .returned (.bool true) ∧ ∃ s', KX B P w gw g s' MM (A + 4) w' := fun s' V hx => by
    have hk := hkp s' _ _ V hx
    refine ⟨⟨⟨(hk.block _ (Or.inl (Nat.le_refl _)) hw2).trans k2, own_sameG (unhide O2) fun p hp => hk.block _ (Or.inl (hqb p hp).1) (hqb p hp).2⟩, (scW.kept hk.size fun i hi hl => hk.block i (Or.inr hi) hl).1⟩, fun V1 V2 b1 gg => ?_⟩
    rw [← hB1] at hx
    have hx1 := KX.turn (hx.below b1 (Nat.lt_of_lt_of_le (Nat.lt_trans hwl hw2) hk.size)) (unhide HNAT) hGS b2 hqb gg
    have hx2 := hx1
    obtain ⟨d', g', _, B', P', hks, _⟩ := hx1
    refine (wsame_any hks (by omega)).mono ?_
    rintro e w' ⟨e1, e2⟩
    exact ⟨e1, s', hx2.below e2 (Nat.lt_of_lt_of_le (Nat.lt_trans hwl hw2) (Nat.le_trans hk.size (Nat.le_trans b1.size gg.size)))⟩
  have HKP := hide hkp
  have HINP := hide hinp
  have SCW := hide scW
  have SIW := hide siW
  have SBW := hide sbW
  have HFIN := hide hfin
  have HB1 := hide hB1
  have BW2 := hide b2
  obtain ⟨⟨⟨z0, z1⟩, z2, z3⟩, z4, z5⟩ := unhide HC w2 k2
  have hbx : ∀ V, Kpt (fun i => w.heap.size ≤ i ∨ i < A0) w2 V → V.heap[w.heap.size]? = Y.heap[w.heap.size]? := fun V hk => (hk.block _ (Or.inl (Nat.le_refl _)) hw2).trans k2
  have HBX := hide hbx
  have km2 : KM B1 P w2 gw d g j0 s0 r := by rw [← hB1]; exact (unhide HNAT).more b2
  have jd2 : JAt B1 w2 d s := by rw [← hB1]; exact (unhide HD).moreY b2
  obtain ⟨⟨y0, y1, y2, y3⟩, yf⟩ := cellsW km2.box
  obtain ⟨Y3, hY3⟩ : ∃ Y3, w2.alloc (.cells #[.string nJ, .string nR] 9) = Y3 := ⟨_, rfl⟩
  have b3 : Below w2.heap.size w2 Y3 := by rw [← hY3]; exact (Below.refl _ _).alloc (Nat.le_refl _) _
  have k3 : Y3.heap[w2.heap.size]? = some (.cells #[.string nJ, .string nR] 9 (0, 0)) := by rw [← hY3]; exact heap_alloc_new _ _
  obtain ⟨⟨⟨x0, x1⟩, x2, x3⟩, x4, x5⟩ := unhide HC Y3 ((b3.block _ hw2).trans k2)
  obtain ⟨⟨t0, t1⟩, _⟩ := cells2 k3
  obtain ⟨b, hbit⟩ := and_one_i64 n
  have n0 : 0 ≤ bits BinOp.and IntKind.i64 n 1 := by rw [hbit]; cases b <;> decide
  have n1 : bits BinOp.and IntKind.i64 n 1 < 2 := by rw [hbit]; cases b <;> decide
  have tn : Y3.cell? ⟨w2.heap.size, (bits BinOp.and IntKind.i64 n 1).toNat, none⟩ = some (.string (nmO b)) := by
    rw [hbit]
    cases b
    · exact t0
    · exact t1
  have h1 : ∀ W, Below w2.heap.size w2 W → Calls Tryz.prog 29 #[.pointer (some ⟨d, 0, none⟩), .string (nmO b), .slice pb bs.length cb] W fun e V => e = .returned (.int .i64 (apn s b bs).1) ∧ D1 B1 w2 d (apn s b bs).2 V := fun W hb => kdat1 km2 jd2 (unhide HS) (by omega) b (by omega) sbW.1 hb
  have h2 : ∀ V, D1 B1 w2 d (apn s b bs).2 V → Calls Tryz.prog 30 #[.pointer (some ⟨g, 0, none⟩), .string (nmO b), .slice pb bs.length cb] V fun e V2 => e = .returned (.int .i64 (apn s b bs).1) ∧ D2 B1 P w2 gw d g j0 s0 (apn s b bs).2 (M + bs.length) (A + 1) V2 := fun V hp => kdat2 km2 (unhide HR) (unhide HS) (by omega) b (by omega) (sbW.mono fun i hi _ => ⟨(hinp i hi).1, (hinp i hi).2.1⟩) hp
  have h3 : ∀ V, D1 B1 w2 d (apn s b bs).2 V → V.cell? ⟨gw, 2, none⟩ = some (.pointer (some ⟨g, 0, none⟩)) ∧ V.cell? ⟨w.heap.size, 5, none⟩ = some (.slice pb bs.length cb) := fun V hp => by
    obtain ⟨⟨u0, u1, u2, u3⟩, _⟩ := hp.box km2
    have hB : V.heap[w.heap.size]? = w2.heap[w.heap.size]? := hp.2.block _ (by rw [← hB1]; exact Or.inr ⟨Nat.le_refl _, hw2⟩) hw2
    obtain ⟨⟨⟨v0, v1⟩, v2, v3⟩, v4, v5⟩ := unhide HC V (hB.trans k2)
    exact ⟨u2, v5⟩
  have h4 : ∀ V, D2 B1 P w2 gw d g j0 s0 (apn s b bs).2 (M + bs.length) (A + 1) V → V.cell? ⟨w.heap.size, 4, none⟩ = some (.slice pi is.length ci) := fun V hp => by
    have hB : V.heap[w.heap.size]? = w2.heap[w.heap.size]? := hp.fr.block _ ⟨by rw [← hB1]; exact Or.inr ⟨Nat.le_refl _, hw2⟩, by omega⟩ hw2
    obtain ⟨⟨⟨v0, v1⟩, v2, v3⟩, v4, v5⟩ := unhide HC V (hB.trans k2)
    exact v4
  have h5 : ∀ V, D2 B1 P w2 gw d g j0 s0 (apn s b bs).2 (M + bs.length) (A + 1) V → Calls Tryz.prog 28 #[.pointer (some ⟨gw, 0, none⟩), .slice pi is.length ci] V fun e w' => e = .returned (.bool true) ∧ ∃ s', KX B1 P w2 gw g s' MM (A + 4) w' := fun V hp => (kdat3 hp (by omega) (by omega) (by omega) hil (siW.mono fun i hi _ => hinp i hi) y3).mono fun e w' ⟨e1, e2⟩ => ⟨e1, _, KX.mono e2 (by omega) (by omega)⟩
  have H1 := hide h1
  have H2 := hide h2
  have H3 := hide h3
  have H4 := hide h4
  have H5 := hide h5
  have B3 := hide b3
  obtain ⟨E, hE⟩ : ∃ E, (apn s b bs).1 = E := ⟨_, rfl⟩
  obtain ⟨S1, hS1⟩ : ∃ S1, (apn s b bs).2 = S1 := ⟨_, rfl⟩
  obtain ⟨NM, hNM⟩ : ∃ NM, nmO b = NM := ⟨_, rfl⟩
  rw [hE, hS1, hNM] at H1
  rw [hE, hS1, hNM] at H2
  rw [hS1] at H3
  rw [hS1] at H4
  rw [hS1] at H5
  rw [hNM] at tn
  obtain ⟨⟨c0', c1', c2', c3'⟩, _⟩ := cellsW (km2.below b3).box
  clear km2 jd2 h1 h2 h3 h4 h5 hE hS1 hNM hbit t0 t1 k3 b3
  clear hbx k2 hc3 hqb hkp hinp scW siW sbW hfin hB1 b2 hl0 hGS HNAT SC SI SB OW0 SCX BX hY
  go_cut [6] from 7 (fun v V => v = .bool true ∧ Hid (∃ s', KX B1 P w2 gw g s' MM (A + 4) V))
  case first =>
    have e4 : (kd == 4) = false := beq_eq_false_iff_ne.2 (by have := unhide HK; omega)
    have e5 : (kd == 5) = false := beq_eq_false_iff_ne.2 (by have := unhide HK; omega)
    have e6 : (kd == 6) = false := beq_eq_false_iff_ne.2 (by have := unhide HK; omega)
    have e7 : (kd == 7) = true := beq_iff_eq.2 (unhide HK)
    go_wp2_with fail
    go_region_with (go_at_call 29; refine (unhide H1 _ (by first | exact unhide B3 | exact (unhide B3).drew | exact (unhide B3).drew.drew)).mono ?_; rintro e u1 ⟨rfl, x1⟩; have X1 := hide x1; (obtain ⟨y2, z5⟩ := unhide H3 _ x1); clear x1)
    all_goals
      go_wp2_with fail
      go_region_with (go_at_call 30; refine (unhide H2 _ (by first | exact unhide X1 | exact (unhide X1).below (Below.refl _ _).drew | exact (unhide X1).below (Below.refl _ _).drew.drew)).mono ?_; rintro e u2 ⟨rfl, x2⟩; have X2 := hide x2; (have z4 := unhide H4 _ x2); clear x2)
      all_goals
        go_wp2_with (go_at_call 28; refine (unhide H5 _ (by first | exact unhide X2 | exact (unhide X2).below (Below.refl _ _).drew | exact (unhide X2).below (Below.refl _ _).drew.drew)).mono ?_; rintro e u3 ⟨rfl, x3⟩; have X3 := hide x3; clear x3)
        go_meet
        exact ⟨rfl, X3⟩
  case rest =>
    obtain ⟨rfl, HX⟩ := hcut
    obtain ⟨V, rfl⟩ : ∃ V, V = wc := ⟨_, rfl⟩
    obtain ⟨s', hx⟩ := unhide HX
    obtain ⟨⟨⟨hbo, hmi⟩, hch⟩, hen⟩ := unhide HFIN s' V hx
    obtain ⟨⟨⟨z0, z1⟩, _⟩, _⟩ := unhide HC V hbo
    have hsame := sameC_any q2 pc c2 cc cs cs V hmi.ls hch (by omega) (by omega)
    rw [decide_eq_true rfl] at hsame
    have HSAME := hide hsame
    have HEN := hide hen
    have HMI := hide hmi
    clear hx hbo hmi hch hen hsame HX HFIN
    go_wp2_with (go_at_call 18; refine (unhide HSAME).mono ?_; rintro e w4 ⟨rfl, b4⟩; have B4 := hide b4; have O4 := hide ((unhide HMI).below b4); clear b4)
    have hst := hide (TnC.start (unhide O4))
    go_loopw [150] (fun i wr => ∃ t : Nat, t ≤ cs.length ∧ i = .int .i64 (t : Int) ∧ Hid (TnC w4 q2 cs.length wr)) (fun i _ => cs.length - (intOf i).toNat)
    case atStart => exact ⟨0, Nat.zero_le _, rfl, hst⟩
    case round =>
      obtain ⟨t, ht, rfl, HT⟩ := hrel
      by_cases htl : t < cs.length
      · obtain ⟨ax, hax, ⟨m0, hm0⟩, hf0⟩ := (unhide HT).row (t * 3) (by omega)
        obtain ⟨ax1, hax1, ⟨m1, hm1⟩, hf1⟩ := (unhide HT).row (t * 3 + 1) (by omega)
        obtain ⟨ax2, hax2, ⟨m2, hm2⟩, hf2⟩ := (unhide HT).row (t * 3 + 2) (by omega)
        obtain rfl : ax1 = ax := by rw [hax] at hax1; injection hax1 with e; injection e with e; exact e.symm
        obtain rfl : ax2 = ax1 := by rw [hax] at hax2; injection hax2 with e; injection e with e; exact e.symm
        have t0 : (0 : Int) ≤ (t : Int) := by omega
        have t1 : (t : Int) < (cs.length : Int) := by omega
        have HTS := hide (fun a b c => (((unhide HT).set (t := t * 3) hax a).set (t := t * 3 + 1) hax b).set (t := t * 3 + 2) hax c)
        subst hax
        go_wp2
        go_roundw
        case rel => exact ⟨t + 1, by omega, by go_num, hide (unhide HTS _ _ _)⟩
        case measure => simp [intOf]; omega
      · obtain rfl : t = cs.length := by omega
        have t1 : ¬ (cs.length : Int) < (cs.length : Int) := by omega
        go_wp2_with (go_at_call 34; refine (unhide HEN w4 wr (unhide B4) (unhide HT).grown).mono ?_; rintro e w9 ⟨rfl, x9⟩; have X9 := hide x9; clear x9)
        go_ret
        exact ⟨rfl, unhide X9⟩
end Go.Proofs.YtfigjfmldpfjkaaGreat
