/- The reference's Shared: what two lists of keys share. -/
import Derived.Test.YtmgdhdekhaohhaaGreatDoorSort
namespace Go.Proofs.YtmgdhdekhaohhaaGreatDoor
open Go.RowKit Go.Sort Go.Shelf

def shrK (a b : List Ky) : List Ky := (ris a).filter (fun z => decide (z ∈ ris b))
set_option maxHeartbeats 8000000 in
set_option maxRecDepth 100000 in
/-- trommelref12.Shared. -/
theorem refShared (qa : Option Addr) (ca : Nat) (a : List Ky) (qb : Option Addr) (cb : Nat) (b : List Ky) (w : World) (ha : SlOf encK 5 w qa ca a) (hb : SlOf encK 5 w qb cb b) (la : a.length * 56 ≤ 140737488355328) (lb : b.length * 56 ≤ 140737488355328) (hfa : FitK a) (hfb : FitK b) :
    Calls Tryz.prog 7 #[.slice qa a.length ca, .slice qb b.length cb] w fun e w' => (∃ q c, e = .returned (.slice q (shrK a b).length c) ∧ OwnK encK 25 5 w.heap.size w' q c (shrK a b)) ∧ Below w.heap.size w w' := by
  have mixed : Tryz.prog.follows .mixedOrders = true := by kernel_rfl
  have en11 : ∀ args w, (callFunc 11 args).run Tryz.prog w = .ok (.enter 11 args) w := enters_of Tryz.func11 (by kernel_rfl) rfl
  have h1 := refSort a la hfa qa ca w ha
  have h2 := fun W (hW : Below w.heap.size w W) => refSort b lb hfb qb cb W (hb.below hW)
  have l1 := ris_len a
  have l2 := ris_len b
  have fr : ∀ x ∈ ris b, x.attr.size ≤ maxLen ∧ x.word.size ≤ maxLen := fun x hx => hfb x (mem_ris.1 hx)
  have SSP := hide (str_ris a)
  have SSR := hide (str_ris b)
  have hfin : ∀ i j out, Shr (ris a) (ris b) i j out → (ris a).length ≤ i → out = shrK a b := fun i j out h hi => h.done hi
  obtain ⟨p, hp⟩ : ∃ p, ris a = p := ⟨_, rfl⟩
  obtain ⟨r, hr⟩ : ∃ r, ris b = r := ⟨_, rfl⟩
  rw [hp] at h1 l1 SSP hfin
  simp only [hr] at h2
  rw [hr] at l2 fr SSR hfin
  have HF := hide hfin
  have HA := hide ha
  clear ha hb hp hr hfin hfa hfb
  go_enter Tryz.func7, Tryz.ntmps7
  go_wp2_with (first
    | (go_at_call 19; have mk := B1; refine (h2 _ (unhide B1)).mono ?_; rintro e W ⟨⟨q2, c2, rfl, ho2⟩, b2⟩; have SR := hide ho2.ls; have SP := hide (((unhide HO1).below b2).ls); have BW := hide (below_sub (unhide B1) b2); clear ho2 b2 mk)
    | (go_at_call 19; refine h1.mono ?_; rintro e w1 ⟨⟨q1, c1, rfl, ho1⟩, b1⟩; have HO1 := hide ho1; have B1 := hide b1; clear ho1 b1))
  clear h1 h2
  have i9 : (p.length : Int) ≤ 2513169434917 := by omega
  have j9 : (r.length : Int) ≤ 2513169434917 := by omega
  go_loopw [7, 8, 9] (fun ov jv iv wr => ∃ (i j : Nat) (out : List Ky) (qo : Option Addr) (co : Nat), i ≤ p.length ∧ j ≤ r.length ∧ ov = .slice qo out.length co ∧ jv = .int .i64 j ∧ iv = .int .i64 i ∧ Hid (Shr p r i j out) ∧ Hid (OwnK encK 25 5 W.heap.size wr qo co out) ∧ Hid (Below W.heap.size W wr)) (fun _ _ iv _ => p.length - (intOf iv).toNat)
  case atStart => exact ⟨0, 0, [], none, 0, Nat.zero_le _, Nat.zero_le _, rfl, rfl, rfl, hide (Shr.start _ _), hide (OwnK.nil _ _), hide (Below.refl _ _)⟩
  case round =>
    obtain ⟨i, j, out, qo, co, hi, hj, rfl, rfl, rfl, HSr, HO, HB⟩ := hrel
    have HLO := hide (unhide HSr).len
    by_cases hi1 : i < p.length
    · obtain ⟨x, hx, _⟩ := get_at hi1
      obtain ⟨bx, ox, hqx, hbx, xc0, xc1, xc2, xc3, xc4⟩ := postAt (unhide SP) hx
      subst hqx
      have c1 : (i : Int) < (p.length : Int) := by omega
      have c0 : (0 : Int) ≤ (i : Int) := by omega
      have HXX := hide hx
      have HA0 := hide ((unhide HSr).ahd hx)
      clear hx
      obtain ⟨V, hV⟩ : ∃ V, V = wr := ⟨_, rfl⟩
      subst hV
      go_wp2
      go_loopw [8] (fun jv wr => ∃ j' : Nat, j' ≤ r.length ∧ jv = .int .i64 j' ∧ Hid (Ahd r x j') ∧ Hid (Below V.heap.size V wr)) (fun jv _ => r.length - (intOf jv).toNat)
      case atStart => exact ⟨j, hj, rfl, HA0, hide (Below.refl _ _)⟩
      case round =>
        obtain ⟨j', hj', rfl, HAh, HBi⟩ := hrel
        by_cases hjl : j' < r.length
        · obtain ⟨t, ht, _⟩ := get_at hjl
          obtain ⟨bt, ot, hqt, hbt, tc0, tc1, tc2, tc3, tc4⟩ := postAt (unhide SR) ht
          subst hqt
          have ft := fr t (List.mem_of_getElem? ht)
          have d1 : (j' : Int) < (r.length : Int) := by omega
          have d0 : (0 : Int) ≤ (j' : Int) := by omega
          have HTT := hide ht
          clear ht
          have x0 := re_cell (below_sub (unhide HB) (unhide HBi)) hbx xc0
          have x1 := re_cell (below_sub (unhide HB) (unhide HBi)) hbx xc1
          have x2 := re_cell (below_sub (unhide HB) (unhide HBi)) hbx xc2
          have x3 := re_cell (below_sub (unhide HB) (unhide HBi)) hbx xc3
          have x4 := re_cell (below_sub (unhide HB) (unhide HBi)) hbx xc4
          have t0 := re_cell (below_sub (unhide HB) (unhide HBi)) hbt tc0
          have t1 := re_cell (below_sub (unhide HB) (unhide HBi)) hbt tc1
          have t2 := re_cell (below_sub (unhide HB) (unhide HBi)) hbt tc2
          have t3 := re_cell (below_sub (unhide HB) (unhide HBi)) hbt tc3
          have t4 := re_cell (below_sub (unhide HB) (unhide HBi)) hbt tc4
          by_cases hc : cmpK t x < 0
          · go_wp2
            refine wp_region_quiet_below (by assumption) (by kernel_rfl) ?_
            repeat (go_big_quiet_step (first | (go_at_fn 11; refine Calls.regrown_of (refCmp _ _ _ ft.1 ft.2))))
            refine wpQuiet_nil ?_
            intro _ hw'
            obtain ⟨⟨dq, osq⟩, hw''⟩ := hw'
            subst hw''
            clear x0 x1 x2 x3 x4 t0 t1 t2 t3 t4
            go_wp2
            go_roundw
            case rel => exact ⟨j' + 1, by omega, by go_num, hide ((unhide HAh).step (unhide HTT) hc), hide (below_sub (unhide HBi) (below_regrown _ _ _))⟩
            case measure => simp [intOf]; omega
          · go_wp2
            refine wp_region_quiet_below (by assumption) (by kernel_rfl) ?_
            repeat (go_big_quiet_step (first | (go_at_fn 11; refine Calls.regrown_of (refCmp _ _ _ ft.1 ft.2))))
            refine wpQuiet_nil ?_
            intro _ hw'
            obtain ⟨⟨dq, osq⟩, hw''⟩ := hw'
            subst hw''
            clear x0 x1 x2 x3 x4 t0 t1 t2 t3 t4
            have B2 := hide (below_sub (unhide HBi) (below_regrown wr dq osq))
            generalize grow (redrawn wr dq) osq = V2 at B2 ⊢
            have x0 := re_cell (below_sub (unhide HB) (unhide B2)) hbx xc0
            have x1 := re_cell (below_sub (unhide HB) (unhide B2)) hbx xc1
            have x2 := re_cell (below_sub (unhide HB) (unhide B2)) hbx xc2
            have x3 := re_cell (below_sub (unhide HB) (unhide B2)) hbx xc3
            have x4 := re_cell (below_sub (unhide HB) (unhide B2)) hbx xc4
            have t0 := re_cell (below_sub (unhide HB) (unhide B2)) hbt tc0
            have t1 := re_cell (below_sub (unhide HB) (unhide B2)) hbt tc1
            have t2 := re_cell (below_sub (unhide HB) (unhide B2)) hbt tc2
            have t3 := re_cell (below_sub (unhide HB) (unhide B2)) hbt tc3
            have t4 := re_cell (below_sub (unhide HB) (unhide B2)) hbt tc4
            have hmem : x ∈ r ↔ r[j']? = some x := (unhide HAh).mem (unhide SSR) (fun u hu => by rw [unhide HTT] at hu; cases hu; omega)
            have heq := fun W => eqlP t x W
            have HNx := hide ((unhide HSr).next (unhide SSP) (unhide HXX) (unhide HAh))
            by_cases htx : t = x
            · rw [show decide (t = x) = true from decide_eq_true htx] at heq
              have HSn : Hid (Shr p r (i + 1) j' (out ++ [x])) := hide (by have := unhide HNx; rwa [if_pos (hmem.2 (by rw [unhide HTT, htx]))] at this)
              clear htx hmem
              go_wp2
              refine wp_region_quiet_below (by assumption) (by kernel_rfl) ?_
              repeat (go_big_quiet_step (fail))
              refine wpQuiet_nil ?_
              intro _ hw'
              obtain ⟨⟨dq, osq⟩, hw''⟩ := hw'
              subst hw''
              have B3 := hide (below_sub (unhide B2) (below_regrown V2 dq osq))
              generalize grow (redrawn V2 dq) osq = V3 at B3 ⊢
              clear x0 x1 x2 x3 x4 t0 t1 t2 t3 t4 heq
              have x0 := ((below_sub (unhide HB) (unhide B3)).cell (p := ⟨bx, _, none⟩) hbx).trans xc0
              have x1 := ((below_sub (unhide HB) (unhide B3)).cell (p := ⟨bx, _, none⟩) hbx).trans xc1
              have x2 := ((below_sub (unhide HB) (unhide B3)).cell (p := ⟨bx, _, none⟩) hbx).trans xc2
              have x3 := ((below_sub (unhide HB) (unhide B3)).cell (p := ⟨bx, _, none⟩) hbx).trans xc3
              have x4 := ((below_sub (unhide HB) (unhide B3)).cell (p := ⟨bx, _, none⟩) hbx).trans xc4
              have hs4 : W.heap.size ≤ V3.heap.size := Nat.le_trans (unhide HB).size (unhide B3).size
              have HO3 := hide ((unhide HO).below (unhide B3))
              go_wp2_with (at_builtin; refine wpList_app rowP rfl _ _ rfl W.heap.size qo co out (some ⟨V3.heap.size, 0, none⟩) 1 [x] out.length 1 (out.length + 1) rfl rfl rfl rfl rfl ((unhide HO3).below ((Below.refl _ _).alloc (Nat.le_refl _) _)) (srcOneK _ _) (by have := unhide HLO; unfold maxLen; omega) (by have := unhide HLO; omega) (by simp; omega) ?_; intro q5 c5 w5 ho5 hb5 _ _; have HO5 := hide ho5; have HB5 := hide ((unhide HB).trans (((unhide B3).mono (unhide HB).size).trans (((Below.refl W.heap.size V3).alloc hs4 _).trans hb5))); clear ho5 hb5)
              go_roundw
              case rel => exact ⟨i + 1, j', out ++ [x], q5, c5, by omega, by omega, by rw [List.length_append]; rfl, by go_num, by go_num, HSn, HO5, HB5⟩
              case measure => simp [intOf]; omega
            · rw [show decide (t = x) = false from decide_eq_false htx] at heq
              have HSn : Hid (Shr p r (i + 1) j' out) := hide (by have := unhide HNx; rwa [if_neg (fun h => htx (by have := hmem.1 h; rw [unhide HTT] at this; exact Option.some.inj this))] at this)
              clear htx hmem
              go_wp2
              refine wp_region_quiet_below (by assumption) (by kernel_rfl) ?_
              repeat (go_big_quiet_step (fail))
              refine wpQuiet_nil ?_
              intro _ hw'
              obtain ⟨⟨dq, osq⟩, hw''⟩ := hw'
              subst hw''
              have B3 := hide (below_sub (unhide B2) (below_regrown V2 dq osq))
              generalize grow (redrawn V2 dq) osq = V3 at B3 ⊢
              clear x0 x1 x2 x3 x4 t0 t1 t2 t3 t4 heq
              go_wp2
              go_roundw
              case rel => exact ⟨i + 1, j', out, qo, co, by omega, by omega, rfl, by go_num, by go_num, HSn, hide ((unhide HO).below (unhide B3)), hide (below_sub (unhide HB) (unhide B3))⟩
              case measure => simp [intOf]; omega
        · have d1 : ¬ (j' : Int) < (r.length : Int) := by omega
          have hmem : x ∈ r ↔ r[j']? = some x := (unhide HAh).mem (unhide SSR) (fun u hu => absurd (List.getElem?_eq_some_iff.1 hu).1 hjl)
          have HSn : Hid (Shr p r (i + 1) j' out) := hide (by have := (unhide HSr).next (unhide SSP) (unhide HXX) (unhide HAh); rwa [if_neg (fun h => hjl (List.getElem?_eq_some_iff.1 (hmem.1 h)).1)] at this)
          clear hmem
          go_wp2
          refine wp_region_quiet_below (by assumption) (by kernel_rfl) ?_
          repeat (go_big_quiet_step (fail))
          refine wpQuiet_nil ?_
          intro _ hw'
          obtain ⟨⟨dq, osq⟩, hw''⟩ := hw'
          subst hw''
          have B2 := hide (below_sub (unhide HBi) (below_regrown wr dq osq))
          generalize grow (redrawn wr dq) osq = V2 at B2 ⊢
          go_wp2
          refine wp_region_quiet_below (by assumption) (by kernel_rfl) ?_
          repeat (go_big_quiet_step (fail))
          refine wpQuiet_nil ?_
          intro _ hw'
          obtain ⟨⟨dq, osq⟩, hw''⟩ := hw'
          subst hw''
          have B3 := hide (below_sub (unhide B2) (below_regrown V2 dq osq))
          generalize grow (redrawn V2 dq) osq = V3 at B3 ⊢
          go_wp2
          go_roundw
          case rel => exact ⟨i + 1, j', out, qo, co, by omega, by omega, rfl, by go_num, by go_num, HSn, hide ((unhide HO).below (unhide B3)), hide (below_sub (unhide HB) (unhide B3))⟩
          case measure => simp [intOf]; omega

    · have c1 : ¬ (i : Int) < (p.length : Int) := by omega
      go_wp2
      go_ret
      obtain rfl := unhide HF _ _ _ (unhide HSr) (by omega)
      exact ⟨⟨qo, co, rfl, (unhide HO).mono (unhide BW).size⟩, below_sub (unhide BW) (unhide HB)⟩
end Go.Proofs.YtmgdhdekhaohhaaGreatDoor
