/- The statement's look at both disks: same. -/
import Derived.Test.YtonhagoeajhacaaJe
import Derived.Deep.Cut
import Derived.Deep.CutBlock
namespace Go.Proofs.Ytonhagoeajhacaa
open Go.RowKit Go.Sort Go.Shelf

theorem some_u8 {w : World} {a b : Addr} {x : Int} (h : ∃ m, w.cell? a = some (.int .u8 m)) : ∃ m, (w.setCell b (.int .u8 x)).cell? a = some (.int .u8 m) := by
  obtain ⟨m, h⟩ := h
  by_cases e : b = a
  · subst e; exact ⟨x, World.cell?_setCell_same _ _ _ h⟩
  · exact ⟨m, by rw [World.cell?_setCell_other _ _ _ _ e]; exact h⟩
/-- A row of bytes of the call's own that is being turned. -/
structure Tn (u2 : World) (qx : Option Addr) (n : Nat) (wr : World) : Prop where
  grown : u2.grownBy wr (qx.map (·.block))
  row : ∀ j, j < n → ∃ ax, qx = some ⟨ax, 0, none⟩ ∧ (∃ m, wr.cell? ⟨ax, j, none⟩ = some (.int .u8 m)) ∧ wr.frozen? ⟨ax, j, none⟩ = false
theorem Tn.start {B : Nat} {u2 : World} {qx : Option Addr} {cx : Nat} {bs : List UInt8} (h : OwnK encB 5 1 B u2 qx cx bs) : Tn u2 qx bs.length u2 := by
  refine ⟨grown_refl _ _, fun j hj => ?_⟩
  obtain ⟨y, hy, _⟩ := get_at hj
  obtain ⟨b, off, hq, _, hc⟩ := byteAt h.ls hy
  subst hq
  rcases h.2 with ⟨h1, _⟩ | ⟨ax, cp, cur, hv, _, hblk, _⟩
  · cases h1
  · injection hv with h1
    injection h1 with h1
    injection h1 with h1 h2
    subst h1 h2
    exact ⟨b, rfl, ⟨_, by rw [Nat.zero_add] at hc; exact hc⟩, frozen_free hblk⟩
theorem Tn.set {u2 wr : World} {qx : Option Addr} {n ax t : Nat} (h : Tn u2 qx n wr) (hq : qx = some ⟨ax, 0, none⟩) (z : Int) : Tn u2 qx n (wr.setCell ⟨ax, t, none⟩ (.int .u8 z)) := by
  refine ⟨?_, fun j hj => ?_⟩
  · have h1 := h.grown
    rw [hq] at h1 ⊢
    exact grown_trans h1 (grown_set _ _ _ _)
  · obtain ⟨a, h1, h2, h3⟩ := h.row j hj
    exact ⟨a, h1, some_u8 h2, by rw [World.frozen?_setCell]; exact h3⟩
set_option maxHeartbeats 8000000 in
set_option maxRecDepth 100000 in
theorem same_any {B P : Nat → Prop} {w : World} {d g : Nat} {s : Dk} {r : Rk} {Z : Nat} (hj : J B P w d g s r) (hr : Rel s r Z) (hZ : Z ≤ 1000000000) (hn : s.n ≤ 1000) (hl : r.fs.length ≤ 1000) (p : Option Addr) (k : Nat) (ms : List ByteArray) (hm : SlOf encS 1 w p k ms) (hml : ms.length ≤ 100) :
    Calls Try.prog 26 #[.pointer (some ⟨d, 0, none⟩), .pointer (some ⟨g, 0, none⟩), .slice p ms.length k] w fun e w' => e = .returned (.bool true) ∧ Below w.heap.size w w' := by
  obtain ⟨q, c, hi⟩ := hj.ref
  obtain ⟨N0, hN0⟩ : ∃ N0, nl s r = N0 := ⟨_, rfl⟩
  have hNl : N0.length ≤ 1000 := by rw [← hN0]; exact Nat.le_trans (nl_len s r) hl
  have hD := fun (V : World) (b : Below w.heap.size w V) => dnames (hj.dk.below b) hr hn
  have hRn := fun (V : World) (b : Below w.heap.size w V) => rnamesU (hi.below b) hr hl
  have hAc := fun (V : World) (b : Below w.heap.size w V) => acts_any (hj.dk.below b)
  have hOf := fun (V : World) (b : Below w.heap.size w V) => off_any (hj.dk.below b)
  have hRd := fun (nm : ByteArray) (V : World) (b : Below w.heap.size w V) => dread (hj.dk.below b) hr hZ nm
  have hRr : ∀ (nm : ByteArray) (V : World), Below w.heap.size w V → Calls Try.prog 48 #[.pointer (some ⟨g, 0, none⟩), .string nm] V fun e w' => (∃ q c, e = .returned (.tuple #[.slice q (rdB s nm).length c, .int .i64 (errE s nm)]) ∧ SlIn encB 1 (· < w.heap.size) V q c (rdB s nm)) ∧ w' = V := fun nm V b => (rreadU (hi.below b) hr hl nm).mono fun e w' ⟨⟨q, c, h1, h2⟩, h3⟩ => ⟨⟨q, c, h1, h2.mono fun i hi _ => hj.sub i (hj.pb i hi)⟩, h3⟩
  have hLo := fun (nm : ByteArray) (V : World) (b : Below w.heap.size w V) => dloose (hj.dk.below b) hr hZ nm
  have hLr := fun (nm : ByteArray) (V : World) (b : Below w.heap.size w V) => rlooseU (hi.below b) hr hl hZ nm
  simp only [hN0] at hD hRn
  have hcg : ∀ V, Below w.heap.size w V → V.cell? ⟨g, 1, none⟩ = some (.int .i64 (s.acts : Int)) ∧ V.cell? ⟨g, 2, none⟩ = some (.bool s.off) := fun V b => by
    have := (cells5 (hi.below b).box).1
    rw [hr.acts, hr.off] at this
    exact ⟨this.2.1, this.2.2.1⟩
  have hM := fun (V : World) (b : Below w.heap.size w V) => hm.below b
  have hLn : ∀ nm, (rdB s nm).length ≤ 1000000000 := fun nm => Nat.le_trans (rd_len hr nm).1 hZ
  have HD := hide hD
  have HRN := hide hRn
  have HAC := hide hAc
  have HOF := hide hOf
  have HRD := hide hRd
  have HRR := hide hRr
  have HLO := hide hLo
  have HLR := hide hLr
  have HCG := hide hcg
  have HM := hide hM
  have HLN := hide hLn
  clear hj hi hr hm hD hRn hAc hOf hRd hRr hLo hLr hcg hM hLn hN0 hn hl
  go_enter Try.func26, Try.ntmps26
  go_upto_region 3 with (first
    | (go_at_call 15; (have tst := unhide B1); clear tst; refine (unhide HD w1 (unhide B1)).mono ?_; rintro e w2 ⟨⟨q2, c2, rfl, o2⟩, b2⟩; have O2 := hide o2; have B12 := hide b2; have B2 := hide (below_sub (unhide B1) b2); clear o2 b2)
    | (go_at_call 15; refine (unhide HD w (Below.refl _ _)).mono ?_; rintro e w1 ⟨⟨q1, c1, rfl, o1⟩, b1⟩; have O1 := hide o1; have B1 := hide b1; clear o1 b1)
    | (go_at_call 45; refine (over_own ((unhide O1).below (unhide B12)) (unhide B2).size (by omega)).mono ?_; rintro e w3 ⟨rfl, g3⟩; have G3 := hide g3; clear g3))
  have b3 : Below w.heap.size w w3 := by
    have hb := unhide B2
    have hg := unhide G3
    refine ⟨hg.os.trans hb.os, hg.tape.trans hb.tape, hg.output.trans hb.output, Nat.le_trans hb.size hg.size, fun i hi => (hg.block i (Nat.lt_of_lt_of_le hi hb.size) (fun e => ?_)).trans (hb.block i hi)⟩
    obtain ⟨pa, hp, hpb⟩ := Option.map_eq_some_iff.1 e.symm
    have := (own_type (unhide O1) hp).1
    omega
  have o3 : OwnK encS 9 1 w1.heap.size w3 q2 c2 N0 := own_keep (unhide O2) (unhide G3) (fun pa hp e => by
    obtain ⟨pb, hpb, hpe⟩ := Option.map_eq_some_iff.1 e.symm
    have h1 := (own_type (unhide O2) hp).1
    obtain ⟨cu, hcu⟩ := (own_type (unhide O1) hpb).2
    have h2 := (Array.getElem?_eq_some_iff.1 hcu).1
    omega)
  have hw1 : w.heap.size ≤ w1.heap.size := (unhide B1).size
  have hw13 : w1.heap.size ≤ w3.heap.size := by have h1 := (unhide B12).size; have h2 := (unhide G3).size; omega
  have B3 := hide b3
  have O3 := hide o3
  clear b3 o3
  go_cut [50] from 24 (fun s50 V => s50 = .bool false ∧ Hid (OwnK encS 9 1 w1.heap.size V q2 c2 N0) ∧ Hid (Below w.heap.size w V) ∧ w1.heap.size ≤ V.heap.size)
  case first =>
    obtain ⟨s1, s2⟩ := unhide HCG w3 (unhide B3)
    go_region_held3 (fun W => W.cell? ⟨g, 1, none⟩ = some (.int .i64 (s.acts : Int)) ∧ W.cell? ⟨g, 2, none⟩ = some (.bool s.off)) (first | exact unhide HCG _ (unhide B5) | exact unhide HCG _ (unhide B5).drew | exact unhide HCG _ (unhide B4) | exact unhide HCG _ (unhide B4).drew | exact unhide HCG _ (unhide B3) | exact unhide HCG _ (unhide B3).drew | assumption) (first
      | (go_at_call 47; refine (unhide HRN _ (by first | exact unhide B3 | exact (unhide B3).drew)).mono ?_; rintro e w4 ⟨⟨q4, c4, rfl, o4⟩, b4⟩; have b4' : Below w3.heap.size w3 w4 := (by first | exact b4 | exact below_undrew b4); have B4 := hide (below_sub (unhide B3) b4'); have O4 := hide o4; have P4 := hide ((unhide O3).below b4'); have Z4 := hide b4'.size; clear o4 b4 b4')
      | (go_at_call 46; refine (same_words q2 q4 c2 c4 N0 _ (by first | exact (unhide P4).ls | exact ((unhide P4).below (Below.refl _ _).drew).ls) (by first | exact (unhide O4).ls | exact ((unhide O4).below (Below.refl _ _).drew).ls) (by omega)).mono ?_; rintro e w5 ⟨rfl, b5⟩; have b5' : Below w4.heap.size w4 w5 := (by first | exact b5 | exact below_undrew b5); have B5 := hide (below_sub (unhide B4) b5'); have P5 := hide ((unhide P4).below b5'); have Z5 : Hid (w1.heap.size ≤ w5.heap.size) := hide (by have h1 := unhide Z4; have h2 := b5'.size; omega); clear b5 b5')
      | (go_at_call 10; refine (unhide HAC _ (by first | exact unhide B5 | exact (unhide B5).drew | exact (unhide B5).drew.drew)).mono ?_; rintro e wz ⟨rfl, rfl⟩)
      | (go_at_call 12; refine (unhide HOF _ (by first | exact unhide B5 | exact (unhide B5).drew | exact (unhide B5).drew.drew)).mono ?_; rintro e wz ⟨rfl, rfl⟩))
    all_goals
      go_wp2
      go_meet
      first
        | exact ⟨rfl, P5, B5, unhide Z5⟩
        | exact ⟨rfl, hide ((unhide P5).below (Below.refl _ _).drew), hide (unhide B5).drew, unhide Z5⟩
        | exact ⟨rfl, hide ((unhide P5).below (Below.refl _ _).drew.drew), hide (unhide B5).drew.drew, unhide Z5⟩
        | exact ⟨by simp, P5, B5, unhide Z5⟩
  case rest =>
    obtain ⟨rfl, HO, HB, hwV⟩ := hcut
    obtain ⟨V, rfl⟩ : ∃ V, V = wc := ⟨_, rfl⟩
    have SM := hide (unhide HM V (unhide HB)).src
    obtain ⟨NT, hNT⟩ : ∃ NT, N0.length + ms.length = NT := ⟨_, rfl⟩
    obtain ⟨LT, hLT⟩ : ∃ LT, N0 ++ ms = LT := ⟨_, rfl⟩
    have hLTl : LT.length = NT := by rw [← hLT, List.length_append]; exact hNT
    have hNT2 : NT ≤ 1100 := by omega
    have HLT := hide hLT
    have HLTL := hide hLTl
    clear hLT hLTl
    go_wp2_with (at_builtin; refine wpList_app rowS rfl _ _ rfl w1.heap.size q2 c2 N0 p k ms N0.length ms.length NT rfl rfl hNT rfl rfl (unhide HO) (unhide SM) (by unfold maxLen; omega) (by omega) hwV ?_; intro q6 c6 w6 o6 b6 _ _; have O6 : Hid (OwnK encS 9 1 w1.heap.size w6 q6 c6 LT) := hide (by rw [← unhide HLT]; exact o6); have B6 := hide ((unhide HB).trans (b6.mono hw1)); clear o6 b6)
    clear hNT
    go_loopw [55] (fun i wr => ∃ j : Nat, j ≤ NT ∧ i = .int .i64 (j : Int) ∧ Hid (Below w6.heap.size w6 wr)) (fun i _ => NT - (intOf i).toNat)
    case atStart => exact ⟨0, Nat.zero_le _, rfl, hide (Below.refl _ _)⟩
    case round =>
      obtain ⟨j, hj, rfl, HBr⟩ := hrel
      obtain ⟨U, rfl⟩ : ∃ U, U = wr := ⟨_, rfl⟩
      by_cases hlt : j < NT
      · obtain ⟨x, hx, _⟩ := get_at (l := LT) (k := j) (by rw [unhide HLTL]; exact hlt)
        obtain ⟨b, off, hq, hb, cx⟩ := strAt ((unhide O6).ls.below (unhide HBr)) hx
        subst hq
        have ki0 : (0 : Int) ≤ (j : Int) := by omega
        have ki1 : (j : Int) < (NT : Int) := by omega
        have BU := hide (below_sub (unhide B6) (unhide HBr))
        obtain ⟨bs, hbs⟩ : ∃ bs, rdB s x = bs := ⟨_, rfl⟩
        obtain ⟨E, hE⟩ : ∃ E, errE s x = E := ⟨_, rfl⟩
        obtain ⟨LN, hLN⟩ : ∃ LN, lsN s x = LN := ⟨_, rfl⟩
        have hrd := unhide HRD x
        have hrr := unhide HRR x
        have hlo := unhide HLO x
        have hlr := unhide HLR x
        have hbl := unhide HLN x
        simp only [hbs, hE] at hrd hrr
        simp only [hLN] at hlo hlr
        rw [hbs] at hbl
        have HRD' := hide hrd
        have HRR' := hide hrr
        have HLO' := hide hlo
        have HLR' := hide hlr
        clear hx hb hbs hE hLN hrd hrr hlo hlr
        go_wp2_with (first
          | (go_at_call 13; (have tst := unhide X1); clear tst; refine (unhide HRD' u1 (unhide BU1)).mono ?_; rintro e u2 ⟨⟨qy, cy, rfl, oy⟩, hby⟩; have Y2 := hide oy; have X2 := hide ((unhide X1).below hby); have BU2 := hide (below_sub (unhide BU1) hby); have BX2 := hide (below_sub (unhide BX6) hby); have Z12 := hide hby.size; clear oy hby)
          | (go_at_call 13; refine (unhide HRD' U (unhide BU)).mono ?_; rintro e u1 ⟨⟨qx, cx', rfl, ox⟩, bx⟩; have X1 := hide ox; have BU1 := hide (below_sub (unhide BU) bx); have Z01 := hide bx.size; have BX6 := hide (below_sub (unhide HBr) bx); clear ox bx)
          | (go_at_call 48; refine (unhide HRR' u2 (unhide BU2)).mono ?_; rintro e uz ⟨⟨qz, cz, rfl, oz⟩, huz⟩; obtain rfl := huz.symm; have Z2 := hide oz; clear oz))
        have hxb : ∀ pa, qx = some pa → U.heap.size ≤ pa.block ∧ pa.block < u1.heap.size := fun pa hp => by
          obtain ⟨h1, cu, hcu⟩ := own_type (unhide X1) hp
          exact ⟨h1, (Array.getElem?_eq_some_iff.1 hcu).1⟩
        have HXB := hide hxb
        have hst := hide (Tn.start (unhide X2))
        clear hxb
        go_loopw [79] (fun i wr => ∃ t : Nat, t ≤ bs.length ∧ i = .int .i64 (t : Int) ∧ Hid (Tn u2 qx bs.length wr)) (fun i _ => bs.length - (intOf i).toNat)
        case atStart => exact ⟨0, Nat.zero_le _, rfl, hst⟩
        case round =>
          obtain ⟨t, ht, rfl, HT⟩ := hrel
          by_cases htl : t < bs.length
          · obtain ⟨ax, hax, ⟨m, hm⟩, hf⟩ := (unhide HT).row t htl
            have t0 : (0 : Int) ≤ (t : Int) := by omega
            have t1 : (t : Int) < (bs.length : Int) := by omega
            have HTS := hide (fun z => (unhide HT).set (t := t) hax z)
            subst hax
            go_wp2
            go_roundw
            case rel => exact ⟨t + 1, by omega, by go_num, hide (unhide HTS _)⟩
            case measure => simp [intOf]; omega
          · obtain rfl : t = bs.length := by omega
            have t1 : ¬ (bs.length : Int) < (bs.length : Int) := by omega
            obtain ⟨u3, rfl⟩ : ∃ u3, u3 = wr := ⟨_, rfl⟩
            have hg := (unhide HT).grown
            have hU : w.heap.size ≤ U.heap.size := (unhide BU).size
            have h01 := unhide Z01
            have h12 := unhide Z12
            have hU6 : w6.heap.size ≤ U.heap.size := (unhide HBr).size
            have hblk : ∀ i, i < U.heap.size → u3.heap[i]? = u2.heap[i]? := fun i hi => hg.block i (by omega) (fun e => by
              obtain ⟨pa, hp, hpb⟩ := Option.map_eq_some_iff.1 e.symm
              have := (unhide HXB pa hp).1
              omega)
            have y3 : OwnK encB 5 1 u1.heap.size u3 qy cy bs := own_keep (unhide Y2) hg (fun pa hp e => by
              obtain ⟨pb, hpb, hpe⟩ := Option.map_eq_some_iff.1 e.symm
              have h1 := (own_type (unhide Y2) hp).1
              have h2 := (unhide HXB pb hpb).2
              omega)
            have z3 : SlIn encB 1 (· < w.heap.size) u3 qz cz bs := (unhide Z2).kept hg.size (fun i hi _ => hblk i (Nat.lt_of_lt_of_le hi hU))
            have cv1 := conv_sl y3.ls
            have cv2 := conv_sl z3.1
            have b3' : Below w.heap.size w u3 := ⟨hg.os.trans (unhide BU2).os, hg.tape.trans (unhide BU2).tape, hg.output.trans (unhide BU2).output, Nat.le_trans (unhide BU2).size hg.size, fun i hi => (hblk i (Nat.lt_of_lt_of_le hi hU)).trans ((unhide BU2).block i hi)⟩
            have b6' : Below w6.heap.size w6 u3 := by
              have h1 := (unhide BX2)
              refine ⟨hg.os.trans h1.os, hg.tape.trans h1.tape, hg.output.trans h1.output, Nat.le_trans h1.size hg.size, fun i hi => (hblk i (Nat.lt_of_lt_of_le hi hU6)).trans (h1.block i hi)⟩
            have B3' := hide b3'
            have B6' := hide b6'
            clear hg hblk y3 z3 b3' b6'
            go_wp2_with (first
              | (go_at_call 9; refine (unhide HLO' u3 (unhide B3')).mono ?_; rintro e u4 ⟨rfl, b4⟩; have B4' := hide (below_sub (unhide B3') b4); have C4' := hide (below_sub (unhide B6') b4); clear b4)
              | (go_at_call 49; refine (unhide HLR' u4 (unhide B4')).mono ?_; rintro e u5 ⟨rfl, b5⟩; have C5' := hide (below_sub (unhide C4') b5); clear b5))
            go_roundw
            case rel => exact ⟨j + 1, by omega, by go_num, C5'⟩
            case measure => simp [intOf]; omega
      · obtain rfl : j = NT := by omega
        have ki1 : ¬ (j : Int) < (j : Int) := by omega
        go_wp2
        go_ret
        exact ⟨rfl, below_sub (unhide B6) (unhide HBr)⟩
end Go.Proofs.Ytonhagoeajhacaa
