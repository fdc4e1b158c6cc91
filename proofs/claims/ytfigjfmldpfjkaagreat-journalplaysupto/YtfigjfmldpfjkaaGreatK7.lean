/- The statement's world: both sides are the same. -/
import Derived.Test.YtfigjfmldpfjkaaGreatK5
import Derived.Deep.RegionLaw
namespace Go.Proofs.YtfigjfmldpfjkaaGreat
open Go.RowKit Go.Sort Go.Shelf

section
variable {B P : Nat → Prop} {w w' : World} {gw d g : Nat} {j0 s0 : Option Nat} {r r' : Rk} {s : JS} {M A : Nat}
set_option maxHeartbeats 8000000 in
set_option maxRecDepth 100000 in
theorem wsame_yes {gj gs : Nat} {x : JX} {L : List Ch} (h : KM B P w gw d g (some gj) (some gs) r) (hj : KJ B P w gw d g gj gs x L s M) (hr : RelJ s r M) (hM : M ≤ 25000000000) :
    Calls Tryz.prog 34 #[.pointer (some ⟨gw, 0, none⟩)] w fun e w' => e = .returned (.bool true) ∧ Below w.heap.size w w' := by
  have hd := hj.jr.jat
  have hac : ∀ W, Below w.heap.size w W → Calls Tryz.prog 19 #[.pointer (some ⟨d, 0, none⟩)] W fun e w' => e = .returned (.int .i64 (s.acts : Int)) ∧ w' = W := fun W hb => actsJ_any (hd.below hb)
  have hof : ∀ W, Below w.heap.size w W → Calls Tryz.prog 14 #[.pointer (some ⟨d, 0, none⟩)] W fun e w' => e = .returned (.bool s.off) ∧ w' = W := fun W hb => offJ_any (hd.below hb)
  have hrd : ∀ nm W, Below w.heap.size w W → Calls Tryz.prog 67 #[.pointer (some ⟨d, 0, none⟩), .string nm] W fun e w' => (∃ q c, e = .returned (.tuple #[.slice q (rdJ s nm).length c, .int .i64 (erJ s nm)]) ∧ OwnK encB 5 1 W.heap.size w' q c (rdJ s nm)) ∧ Below W.heap.size W w' := fun nm W hb => dreadJ (hd.below hb) hr (by omega) nm
  have hlo : ∀ nm W, Below w.heap.size w W → Calls Tryz.prog 46 #[.pointer (some ⟨d, 0, none⟩), .string nm] W fun e w' => e = .returned (.int .i64 ((lsJ s nm : Nat) : Int)) ∧ Below W.heap.size W w' := fun nm W hb => dlooseJ (hd.below hb) hr (by omega) nm
  have hrr : ∀ nm W, Below w.heap.size w W → Calls Tryz.prog 49 #[.pointer (some ⟨g, 0, none⟩), .string nm] W fun e w' => (∃ q c, e = .returned (.tuple #[.slice q (rdJ s nm).length c, .int .i64 (erJ s nm)]) ∧ SlOf encB 1 W q c (rdJ s nm)) ∧ w' = W := fun nm W hb => by
    obtain ⟨q, c, hi⟩ := (h.below hb).ref
    refine (rreadJ hi hr nm).mono ?_
    rintro e w' ⟨⟨q, c, h1, h2⟩, h3⟩
    exact ⟨⟨q, c, h1, h2.1⟩, h3⟩
  have hlr : ∀ nm W, Below w.heap.size w W → Calls Tryz.prog 51 #[.pointer (some ⟨g, 0, none⟩), .string nm] W fun e w' => e = .returned (.int .i64 ((lsJ s nm : Nat) : Int)) ∧ Below W.heap.size W w' := fun nm W hb => by
    obtain ⟨q, c, hi⟩ := (h.below hb).ref
    exact rlooseJ hi hr (by omega) nm
  have ha : r.acts = s.acts := hr.acts
  have ho : r.off = s.off := hr.off
  have hcg : ∀ W, Below w.heap.size w W → ((W.cell? ⟨gw, 0, none⟩ = some (.pointer (some ⟨d, 0, none⟩)) ∧ W.cell? ⟨gw, 2, none⟩ = some (.pointer (some ⟨g, 0, none⟩))) ∧ (W.cell? ⟨g, 1, none⟩ = some (.int .i64 (s.acts : Int)) ∧ W.cell? ⟨g, 2, none⟩ = some (.bool s.off))) ∧ (W.cell? ⟨gw, 1, none⟩ = some (.pointer (some ⟨gj, 0, none⟩)) ∧ W.cell? ⟨gw, 3, none⟩ = some (.pointer (some ⟨gs, 0, none⟩))) := fun W hb => by
    obtain ⟨q, c, hi⟩ := (h.below hb).ref
    obtain ⟨⟨x0, x1, x2, x3⟩, _⟩ := cellsW (h.below hb).box
    obtain ⟨⟨y0, y1, y2, y3, y4⟩, _⟩ := cells5 hi.box
    rw [ha] at y1
    rw [ho] at y2
    exact ⟨⟨⟨x0, x2⟩, y1, y2⟩, x1, x3⟩
  have hct : ∀ W, Below w.heap.size w W → Calls Tryz.prog 22 #[.pointer (some ⟨gj, 0, none⟩)] W fun e w' => e = .returned (.int .i64 (x.cnt : Int)) ∧ w' = W := fun W hb => count_any (hj.jr.below hb).box
  have hby : ∀ W, Below w.heap.size w W → Calls Tryz.prog 20 #[.pointer (some ⟨gj, 0, none⟩)] W fun e w' => e = .returned (.int .i64 (x.bytes : Int)) ∧ w' = W := fun W hb => bytes_any (hj.jr.below hb).box
  have hpe : ∀ W, Below w.heap.size w W → Calls Tryz.prog 21 #[.pointer (some ⟨gj, 0, none⟩)] W fun e w' => e = .returned (.int .i64 (x.pend : Int)) ∧ w' = W := fun W hb => pending_any (hj.jr.below hb).box
  have hcs : ∃ q c, ∀ W, Below w.heap.size w W → (W.cell? ⟨gs, 1, none⟩ = some (.slice q x.cnt c) ∧ W.cell? ⟨gs, 2, none⟩ = some (.int .i64 (x.bytes : Int))) ∧ W.cell? ⟨gs, 3, none⟩ = some (.int .i64 (x.pend : Int)) := by
    obtain ⟨q, c, hi⟩ := hj.rj
    refine ⟨q, c, fun W hb => ?_⟩
    obtain ⟨⟨y0, y1, y2, y3, y4⟩, _⟩ := cells5 (hi.below hb).box
    rw [← hi.cnt] at y1
    exact ⟨⟨y1, y2⟩, y3⟩
  obtain ⟨qs, ks, hcs⟩ := hcs
  have HCT := hide hct
  have HBY := hide hby
  have HPE := hide hpe
  have HCS := hide hcs
  have HAC := hide hac
  have HOF := hide hof
  have HRD := hide hrd
  have HLO := hide hlo
  have HRR := hide hrr
  have HLR := hide hlr
  have HCG := hide hcg
  clear h hd hr hac hof hrd hlo hrr hlr hcg ha ho hj hct hby hpe hcs
  go_enter Tryz.func34, Tryz.ntmps34
  go_upto_region 1 with fail
  go_cut [40] from 9 (fun v V => v = .bool false ∧ Hid (Below w.heap.size w V))
  case first =>
    obtain ⟨⟨⟨c0, c2⟩, a1, a2⟩, _⟩ := unhide HCG w (Below.refl _ _)
    go_region_held3 (fun W => (W.cell? ⟨gw, 0, none⟩ = some (.pointer (some ⟨d, 0, none⟩)) ∧ W.cell? ⟨gw, 2, none⟩ = some (.pointer (some ⟨g, 0, none⟩))) ∧ (W.cell? ⟨g, 1, none⟩ = some (.int .i64 (s.acts : Int)) ∧ W.cell? ⟨g, 2, none⟩ = some (.bool s.off))) (first | exact (unhide HCG _ (Below.refl _ _)).1 | exact (unhide HCG _ (Below.refl _ _).drew).1 | exact (unhide HCG _ (Below.refl _ _).drew.drew).1 | assumption) (first
      | (go_at_call 19; refine (unhide HAC _ (by first | exact Below.refl _ _ | exact (Below.refl _ _).drew | exact (Below.refl _ _).drew.drew)).mono ?_; rintro e wz ⟨rfl, rfl⟩)
      | (go_at_call 14; refine (unhide HOF _ (by first | exact Below.refl _ _ | exact (Below.refl _ _).drew | exact (Below.refl _ _).drew.drew)).mono ?_; rintro e wz ⟨rfl, rfl⟩))
    all_goals
      go_wp2
      go_meet
      first
        | exact ⟨rfl, hide (Below.refl _ _)⟩
        | exact ⟨rfl, hide (Below.refl _ _).drew⟩
        | exact ⟨rfl, hide (Below.refl _ _).drew.drew⟩
        | exact ⟨by simp, hide (Below.refl _ _)⟩
        | exact ⟨by simp, hide (Below.refl _ _).drew⟩
  case rest =>
    obtain ⟨rfl, HB⟩ := hcut
    obtain ⟨V, rfl⟩ : ∃ V, V = wc := ⟨_, rfl⟩
    obtain ⟨V1, hV1⟩ : ∃ V1, V.alloc (.cells #[.string nJ, .string nR] 9) = V1 := ⟨_, rfl⟩
    have kV : V1.heap[V.heap.size]? = some (.cells #[.string nJ, .string nR] 9 (0, 0)) := by rw [← hV1]; exact heap_alloc_new _ _
    have bV : Below V.heap.size V V1 := by rw [← hV1]; exact (Below.refl _ _).alloc (Nat.le_refl _) _
    have bw1 : Below w.heap.size w V1 := below_sub (unhide HB) bV
    have hVl : V.heap.size < V1.heap.size := (Array.getElem?_eq_some_iff.1 kV).1
    have B1 := hide bw1
    have hnm : ∀ t, t < 2 → ∃ nm, ∀ W, Below V1.heap.size V1 W → W.cell? ⟨V.heap.size, t, none⟩ = some (.string nm) := fun t ht => by
      refine ⟨if t = 0 then nJ else nR, fun W hb => ?_⟩
      have := (hb.block _ hVl).trans kV
      unfold World.cell?
      rw [this]
      rcases (show t = 0 ∨ t = 1 by omega) with rfl | rfl <;> rfl
    have HNM := hide hnm
    clear bV bw1 kV hnm
    go_wp2_with fail
    go_loopw [43] (fun i wr => ∃ t : Nat, t ≤ 2 ∧ i = .int .i64 (t : Int) ∧ Hid (Below V1.heap.size V1 wr)) (fun i _ => 2 - (intOf i).toNat)
    case atStart => exact ⟨0, Nat.zero_le _, rfl, hide (by first | exact Below.refl _ _ | (rw [hV1]; exact Below.refl _ _))⟩
    case round =>
      obtain ⟨t, ht, rfl, HR⟩ := hrel
      obtain ⟨U, rfl⟩ : ∃ U, U = wr := ⟨_, rfl⟩
      clear hV1
      by_cases htl : t < 2
      · obtain ⟨nm, hnm⟩ := unhide HNM t htl
        have t0 : (0 : Int) ≤ (t : Int) := by omega
        have t1 : (t : Int) < 2 := by omega
        have cN := hnm U (unhide HR)
        have HN := hide hnm
        obtain ⟨⟨⟨c0, c2⟩, a1, a2⟩, _⟩ := unhide HCG U (below_sub (unhide B1) (unhide HR))
        have hbb : ∀ W, Below U.heap.size U W → Below w.heap.size w W := fun W hb => below_sub (below_sub (unhide B1) (unhide HR)) hb
        have HBB := hide hbb
        have hrd := unhide HRD nm U (below_sub (unhide B1) (unhide HR))
        have hrr := fun W hb => unhide HRR nm W (hbb W hb)
        have hlo := fun W hb => unhide HLO nm W (hbb W hb)
        have hlr := fun W hb => unhide HLR nm W (hbb W hb)
        obtain ⟨bs, hbs⟩ : ∃ bs, rdJ s nm = bs := ⟨_, rfl⟩
        obtain ⟨E, hE⟩ : ∃ E, erJ s nm = E := ⟨_, rfl⟩
        obtain ⟨LN, hLN⟩ : ∃ LN, lsJ s nm = LN := ⟨_, rfl⟩
        simp only [hbs, hE, hLN] at hrd hrr hlo hlr
        have HRD' := hide hrd
        have HRR' := hide hrr
        have HLO' := hide hlo
        have HLR' := hide hlr
        clear hrd hrr hlo hlr hbs hE hLN hbb hnm
        go_wp2_with (first
          | (go_at_call 67; refine (unhide HRD').mono ?_; rintro e u1 ⟨⟨qx, cx, rfl, ox⟩, b1⟩; have X1 := hide ox; have B2 := hide b1; (obtain ⟨⟨⟨c0, c2⟩, a1, a2⟩, _⟩ := unhide HCG u1 (unhide HBB _ b1)); clear ox b1)
          | (go_at_call 49; refine (unhide HRR' u1 (unhide B2)).mono ?_; rintro e uz ⟨⟨qz, cz, rfl, oz⟩, huz⟩; obtain rfl := huz.symm; have Z1 := hide oz; clear oz))
        have cv1 := conv_sl (unhide X1).ls
        have cv2 := conv_sl (unhide Z1)
        have hS : ∀ W, Below u1.heap.size u1 W → (W.cell? ⟨gw, 0, none⟩ = some (.pointer (some ⟨d, 0, none⟩)) ∧ W.cell? ⟨gw, 2, none⟩ = some (.pointer (some ⟨g, 0, none⟩))) ∧ ((convert 40 9 (.slice qx bs.length cx)).run Tryz.prog W = .ok (.string ⟨bs.toArray⟩) W ∧ (convert 40 9 (.slice qz bs.length cz)).run Tryz.prog W = .ok (.string ⟨bs.toArray⟩) W) := fun W hb => ⟨(unhide HCG W (unhide HBB _ (below_sub (unhide B2) hb))).1.1, conv_sl ((unhide X1).below hb).ls, conv_sl ((unhide Z1).below hb)⟩
        have HS := hide hS
        clear hS
        go_region_held3 (fun W => (W.cell? ⟨gw, 0, none⟩ = some (.pointer (some ⟨d, 0, none⟩)) ∧ W.cell? ⟨gw, 2, none⟩ = some (.pointer (some ⟨g, 0, none⟩))) ∧ ((convert 40 9 (.slice qx bs.length cx)).run Tryz.prog W = .ok (.string ⟨bs.toArray⟩) W ∧ (convert 40 9 (.slice qz bs.length cz)).run Tryz.prog W = .ok (.string ⟨bs.toArray⟩) W)) (first | exact unhide HS _ (unhide C5) | exact unhide HS _ (unhide C5).drew | exact unhide HS _ (unhide C4) | exact unhide HS _ (unhide C4).drew | exact unhide HS _ (Below.refl _ _) | exact unhide HS _ (Below.refl _ _).drew | exact unhide HS _ (Below.refl _ _).drew.drew | assumption) (first
          | (go_at_call 46; refine (unhide HLO' _ (by first | exact unhide B2 | exact (unhide B2).drew | exact (unhide B2).drew.drew)).mono ?_; rintro e u4 ⟨rfl, b4⟩; have b4' : Below u1.heap.size u1 u4 := (by first | exact b4 | exact below_undrew b4 | exact below_undrew (below_undrew b4)); have C4 := hide b4'; have B4 : Hid (Below U.heap.size U u4) := hide (below_sub (unhide B2) b4'); clear b4 b4')
          | (go_at_call 51; refine (unhide HLR' _ (by first | exact unhide B4 | exact (unhide B4).drew | exact (unhide B4).drew.drew)).mono ?_; rintro e u5 ⟨rfl, b5⟩; have b5' : Below u4.heap.size u4 u5 := (by first | exact b5 | exact below_undrew b5 | exact below_undrew (below_undrew b5)); have C5 := hide (below_sub (unhide C4) b5'); have B5 : Hid (Below U.heap.size U u5) := hide (below_sub (unhide B4) b5'); clear b5 b5'))
        all_goals
          go_wp2
          go_roundw
          case rel => exact ⟨t + 1, by omega, by go_num, hide (below_sub (unhide HR) (by first | exact unhide B5 | exact (unhide B5).drew | exact (unhide B5).drew.drew))⟩
          case measure => simp [intOf]; omega
      · obtain rfl : t = 2 := by omega
        have t1 : ¬ ((2 : Nat) : Int) < 2 := by omega
        have hb := below_sub (unhide B1) (unhide HR)
        have HE := hide hb
        obtain ⟨⟨⟨c0, c2⟩, a1, a2⟩, c1, c3⟩ := unhide HCG U hb
        clear hb
        go_wp2_with fail
        obtain ⟨⟨x1, x2⟩, x3⟩ := unhide HCS U (unhide HE)
        go_quiet (first
          | (go_at_call 22; refine Calls.quiet_of_same (unhide HCT _ (below_drewN (unhide HE) _)))
          | (go_at_call 20; refine Calls.quiet_of_same (unhide HBY _ (below_drewN (unhide HE) _)))
          | (go_at_call 21; refine Calls.quiet_of_same (unhide HPE _ (below_drewN (unhide HE) _))))
        go_wp2
        go_ret
        exact ⟨rfl, below_drewN (unhide HE) _⟩
end
end Go.Proofs.YtfigjfmldpfjkaaGreat
