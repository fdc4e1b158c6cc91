/- QueueHeads: heads are taken of all or of none. -/
import Derived.Test.YtfenkiplofnolaaHl1
namespace Go.Proofs.Ytfenkiplofnolaa
open Go.RowKit Go.Sort Go.Shelf

theorem ptr_lit {W : World} {L : Nat} {b : Nat} (hb : W.heap[b]? = some (.cells #[.pointer (some ⟨L, 0, none⟩)] 24 (0, 0))) : SrcK encG 1 W (some ⟨b, 0, none⟩) 1 [L] :=
  (sl_lit (fun x : Nat => Value.pointer (some ⟨x, 0, none⟩)) (l := [L]) (by simp [maxLen]) hb).src
theorem lists_eq (l : List Int) (n : Nat) (hn : n ≤ min l.length 16) : (l.take 16).drop n = (l.drop n).take (min l.length 16 - n) := by
  rw [List.drop_take]
  by_cases h : l.length ≤ 16
  · rw [List.take_of_length_le (by simp; omega), List.take_of_length_le (by simp; omega)]
  · rw [show min l.length 16 = 16 by omega]
/-- The lists that the queues bear. -/
def Bears (hs : List Hl) (gs : List Nat) (lf : Nat → List Int) : Prop := ∀ (j : Nat) (h : Hl) (g : Nat), hs[j]? = some h → gs[j]? = some g → lf g = h.l.take 16
theorem Bears.add {hs : List Hl} {gs : List Nat} {lf : Nat → List Int} (hb : Bears hs gs lf) {k : Nat} {h : Hl} (hk : hs[k]? = some h) (hl : gs.length = k) {L : Nat} (hL : L ∉ gs) : Bears hs (gs ++ [L]) (upd lf L (h.l.take 16)) := fun j h' g hj hg => by
  by_cases hjk : j < gs.length
  · rw [List.getElem?_append_left hjk] at hg
    have hgm := List.mem_of_getElem? hg
    rw [upd_ne _ _ (fun e => hL (by rw [← e]; exact hgm))]
    exact hb j h' g hj hg
  · have hlt := (List.getElem?_eq_some_iff.1 hg).1
    simp at hlt
    obtain rfl : j = k := by omega
    rw [List.getElem?_append_right (by omega), hl, Nat.sub_self] at hg
    simp at hg
    subst hg
    rw [hk] at hj
    cases hj
    exact upd_same _ _ _
set_option maxHeartbeats 8000000 in
set_option maxRecDepth 100000 in
theorem heads_law (p : Option Addr) (c : Nat) (hs : List Hl) (w : World) (h1 : HlsOf w p c hs) (hb : hs.length * 24 ≤ 140737488355328) (hl : ∀ h ∈ hs, h.l.length ≤ 100000000000000) :
    Calls Try.prog 6 #[.slice p hs.length c] w fun e w' => e = .returned (.bool true) ∧ Below w.heap.size w w' := by
  have hfx := fixed_any w
  have hnew := fun W => newI 16 W
  rw [show roomN 16 = 16 by decide] at hnew
  have H1 := hide h1
  have HL := hide hl
  have n0 : (hs.length : Int) ≤ 100000000000000 := by omega
  clear h1 hl
  go_enter Try.func6, Try.ntmps6
  go_wp2_with (go_at_call 7; refine hfx.mono ?_; rintro e w1 ⟨rfl, b1⟩; have B1 := hide b1; clear b1)
  obtain ⟨B, hB⟩ : ∃ B, w1.heap.size = B := ⟨_, rfl⟩
  have hwB : w.heap.size ≤ B := by rw [← hB]; exact (unhide B1).size
  have hBw : B ≤ w1.heap.size := by omega
  have HS0 := hide (HS1.nil B w1)
  clear hB hfx
  go_loopw [3, 4, 22] (fun s m i wr => ∃ (k : Nat) (gs : List Nat) (qq : Option Addr) (cq : Nat) (qf : Nat → Option Addr) (cf : Nat → Nat) (lf : Nat → List Int), k ≤ hs.length ∧ i = .int .i64 k ∧ s = .slice qq k cq ∧ m = .int .i64 (ml (hs.take k) : Nat) ∧ Hid (gs.length = k) ∧ Hid (HS1 B wr gs qq cq qf cf lf) ∧ Hid (Bears hs gs lf) ∧ Hid (Below B w1 wr)) (fun _ _ i _ => hs.length - (intOf i).toNat)
  case atStart => exact ⟨0, [], none, 0, _, _, _, by omega, rfl, rfl, rfl, hide rfl, HS0, hide (fun j h g _ hg => by simp at hg), hide (Below.refl _ _)⟩
  case round =>
    obtain ⟨k, gs, qq, cq, qf, cf, lf, hk, rfl, rfl, rfl, HGL, HSr, HBe, HB⟩ := hrel
    have hbw : Below w.heap.size w wr := (unhide B1).trans ((unhide HB).mono hwB)
    have hBr : B ≤ wr.heap.size := Nat.le_trans hBw (unhide HB).size
    by_cases hlt : k < hs.length
    · obtain ⟨h, hh, _⟩ := get_at hlt
      obtain ⟨b, off, hp, hbl, hcell, hsl⟩ := ((unhide H1).below hbw).at hh
      subst hp
      have hhl := unhide HL h (List.mem_of_getElem? hh)
      have ki0 : (0 : Int) ≤ (k : Int) := by omega
      have ki1 : (k : Int) < (hs.length : Int) := by omega
      have hput := fun (W : World) (hQ : QIn encI 3 1 51 W wr.heap.size none 0 16 []) (hW : Below wr.heap.size wr W) => putI wr.heap.size none 0 16 [] h.q h.c h.l W hQ (hsl.below hW) hhl
      simp only [List.length_nil, Nat.sub_zero, List.nil_append] at hput
      have hms := ml_snoc hh
      obtain ⟨n, hn⟩ : ∃ n, min h.l.length 16 = n := ⟨_, rfl⟩
      rw [hn] at hput hms
      have hmin : min ((ml (hs.take k) : Nat) : Int) (n : Int) = ((ml (hs.take (k + 1)) : Nat) : Int) := by rw [hms]; omega
      have hL : wr.heap.size ∉ gs := fun hm => Nat.lt_irrefl _ (((unhide HSr).fam.q _ hm).lt)
      have HBe2 := hide ((unhide HBe).add hh (unhide HGL) hL)
      have HPUT := hide hput
      have HHH := hide hh
      generalize ml (hs.take k) = mk at hmin ⊢
      generalize hmk1 : ml (hs.take (k + 1)) = mk1 at hmin
      have HMK := hide hmk1
      clear hput hms hn hh hsl hL hmk1 hbw hhl
      go_wp2_with (first
        | (go_at_call 8; refine (hnew wr).mono ?_; rintro e w2 ⟨rfl, i2, b2⟩; have I2 := hide i2; have B2 := hide b2; clear i2 b2)
        | (go_at_call 11; refine (unhide HPUT w2 (unhide I2) (unhide B2)).mono ?_; rintro e w3 ⟨rfl, q3, c3, i3, m3⟩; have I3 := hide i3; have M3 := hide m3; clear i3 m3)
        | (at_builtin; refine wpList_appK rowG rfl _ _ rfl B qq cq gs (some ⟨w3.heap.size, 0, none⟩) 1 [wr.heap.size] k 1 (k + 1) (unhide HGL) rfl rfl rfl rfl (hs_row (unhide HSr) (unhide B2) (unhide M3)) (ptr_lit (box_nw w3 _)) (by unfold maxLen; omega) (by omega) (by have := (unhide B2).size; have := (unhide M3).1.size; simp; omega) ?_; intro q5 c5 w5 o5 b5 s5; obtain ⟨hs5, bb5⟩ := (unhide HSr).add hBr (unhide B2) (unhide I3) (unhide M3) s5 o5; have S5 := hide hs5; have B5 := hide bb5; clear o5 b5 s5 hs5 bb5))
      go_roundw
      case rel => exact ⟨k + 1, gs ++ [wr.heap.size], q5, c5, _, _, _, by omega, by go_num, rfl, by rw [unhide HMK], hide (by rw [List.length_append, unhide HGL]; rfl), S5, HBe2, hide ((unhide HB).trans (unhide B5))⟩
      case measure => simp [intOf]; omega
    · obtain rfl : hs.length = k := by omega
      have ki1 : ¬ (hs.length : Int) < (hs.length : Int) := by omega
      rw [List.take_length]
      have hout : ∀ i, i < B → Out (· ∈ gs) qf i := fun i hi g hg hf => by have := (unhide HSr).hi g hg i hf; omega
      have HOUT := hide hout
      have HBW := hide hbw
      clear hout hbw
      by_cases h0 : hs.length = 0
      · have hh0 : Calls Try.prog 17 #[.slice none 0 0] wr fun e w' => (∃ q' c', e = .returned (.tuple #[.slice q' 0 c', .bool true])) ∧ Below wr.heap.size wr w' := by
          refine (heads_yes (dom := fun _ => False) (qf := fun _ => none) (cf := fun _ => 0) (mf := fun _ => 0) (lf := fun _ => []) none 0 [] wr (SlOf.none _) (fun g hg => by simp at hg) ⟨fun g hg => hg.elim, fun g _ hg => hg.elim⟩ (by simp) (fun g hg => by simp at hg) (fun a ha => by cases ha)).mono ?_
          rintro e w' ⟨⟨q', c', h3, _⟩, _, hk⟩
          exact ⟨⟨q', c', h3⟩, hk.below fun i hi => ⟨fun g hg => hg.elim, hi⟩⟩
        have hz : (hs.length : Int) = 0 := by omega
        have hz2 : ((hs.length : Int) == 0) = true := by simpa using hz
        go_wp2_with (go_at_call 17; refine hh0.mono ?_; rintro e w2 ⟨⟨q2, c2, rfl⟩, b2⟩; have B2 := hide b2; clear b2)
        go_ret
        exact ⟨rfl, (unhide HBW).trans ((unhide B2).mono (unhide HBW).size)⟩
      · have hz : ¬ (hs.length : Int) = 0 := by omega
        have hz2 : ((hs.length : Int) == 0) = false := by simpa using hz
        have hlen : ∀ g ∈ gs, ml hs ≤ (lf g).length := fun g hg => by
          obtain ⟨j, hj⟩ := List.mem_iff_getElem?.1 hg
          have hjl := (List.getElem?_eq_some_iff.1 hj).1
          obtain ⟨h, hh, _⟩ := get_at (l := hs) (k := j) (by rw [← unhide HGL]; exact hjl)
          rw [unhide HBe j h g hh hj, List.length_take]
          have := ml_mem (List.mem_of_getElem? hh)
          omega
        have hno : ∃ g ∈ gs, (lf g).length = ml hs := by
          obtain ⟨h, hh, he⟩ := ml_some (hs := hs) (by omega)
          obtain ⟨j, hj⟩ := List.mem_iff_getElem?.1 hh
          have hjl := (List.getElem?_eq_some_iff.1 hj).1
          obtain ⟨g, hg, _⟩ := get_at (l := gs) (k := j) (by rw [unhide HGL]; exact hjl)
          refine ⟨g, List.mem_of_getElem? hg, ?_⟩
          rw [unhide HBe j h g hj hg, List.length_take, he]
          omega
        have hm16 := ml_le hs
        have HLEN := hide hlen
        have HNO := hide hno
        obtain ⟨m, hm⟩ : ∃ m, ml hs = m := ⟨_, rfl⟩
        rw [hm] at HLEN HNO hm16
        rw [hm]
        have hmi : (m : Int) ≤ 16 := by omega
        obtain ⟨W1, hW1⟩ : ∃ W1, wr = W1 := ⟨_, rfl⟩
        rw [hW1] at HSr HB hBr HBW
        have HMM := hide hm
        have hrow := row_out (unhide HSr).row (unhide HSr).fam (by decide)
        have HROW := hide hrow
        clear hm hlen hno hrow hz
        go_wp2
        go_loopw [10] (fun i w2 => ∃ k : Nat, k ≤ m ∧ i = .int .i64 k ∧ Hid (Fam w2 (· ∈ gs) qf cf (fun _ => 16) (fun g => (lf g).drop k)) ∧ Hid (Kpt (Out (· ∈ gs) qf) W1 w2)) (fun i _ => m - (intOf i).toNat)
        case atStart => exact ⟨0, by omega, rfl, hide ((unhide HSr).fam.congr (fun g _ => by simp)), hide (Kpt.refl _ _)⟩
        case round =>
          obtain ⟨k, hk2, rfl, HF, HK⟩ := hrel
          clear hW1
          have hBB : Below B W1 wr := (unhide HK).below fun i hi => ⟨unhide HOUT i hi, by omega⟩
          have hbw2 : Below w.heap.size w wr := (unhide HBW).trans (hBB.mono hwB)
          have hrw : OwnK encG 24 1 B wr qq cq gs := (unhide HSr).row.keep fun i hi => (unhide HK).block i (unhide HROW i hi) ((unhide HSr).row.blk hi).2
          have hso : ∀ a, qq = some a → Out (· ∈ gs) qf a.block := fun a ha => unhide HROW a.block (by rw [ha]; rfl)
          by_cases hkm : k < m
          · have hall : ∀ g ∈ gs, gs.count g ≤ ((lf g).drop k).length := fun g hg => by
              rw [nodup_count (unhide HSr).nd hg, List.length_drop]
              have := unhide HLEN g hg
              omega
            have hhd := heads_yes qq cq gs wr hrw.ls (fun g hg => hg) (unhide HF) (by rw [unhide HGL]; omega) hall hso
            rw [unhide HGL] at hhd
            have ki2 : (k : Int) < (m : Int) := by omega
            have hfe : ∀ g ∈ gs, (lf g).drop (k + 1) = ((lf g).drop k).drop (gs.count g) := fun g hg => by rw [nodup_count (unhide HSr).nd hg, List.drop_drop]
            have hval : ∀ (j : Nat) (h : Hl), hs[j]? = some h → (heads gs (fun g => (lf g).drop k))[j]? = h.l[k]? := fun j h hj => by
              have hjl := (List.getElem?_eq_some_iff.1 hj).1
              obtain ⟨g, hg, _⟩ := get_at (l := gs) (k := j) (by rw [unhide HGL]; exact hjl)
              have h3 := unhide HBe j h g hj hg
              have hkl := unhide HLEN g (List.mem_of_getElem? hg)
              rw [h3, List.length_take] at hkl
              unfold heads
              rw [List.getElem?_map, List.getElem?_range (by rw [unhide HGL]; exact hjl)]
              simp only [Option.map_some]
              rw [heads_at hg, nodup_count0 (unhide HSr).nd hg, h3, List.getElem?_eq_getElem (by omega), List.getD_eq_getElem?_getD, List.getElem?_drop, Nat.add_zero, List.getElem?_take, if_pos (by omega), List.getElem?_eq_getElem (by omega)]
              rfl
            have hhl : (heads gs (fun g => (lf g).drop k)).length = hs.length := by unfold heads; rw [List.length_map, List.length_range]; exact unhide HGL
            generalize heads gs (fun g => (lf g).drop k) = hd at hhd hval hhl
            have HFE := hide hfe
            have HVAL := hide hval
            have HHL := hide hhl
            have HBB := hide hBB
            have HBW2 := hide hbw2
            have hb0 : ((hs.length : Int) != (hs.length : Int)) = false := by simp
            clear hfe hval hhl hall hso hrw hBB hbw2
            go_wp2_with (go_at_call 17; refine hhd.mono ?_; rintro e w3 ⟨⟨q3, c3, rfl, o3⟩, f3, k3⟩; have O3 := hide o3; have F3 := hide (f3.congr (unhide HFE)); have K3 := hide ((unhide HK).trans k3); clear o3 f3 k3)
            have hB3 : Below B W1 w3 := (unhide K3).below fun i hi => ⟨unhide HOUT i hi, by omega⟩
            have hbw3 : Below w.heap.size w w3 := (unhide HBW).trans (hB3.mono hwB)
            have HBW3 := hide hbw3
            clear hB3 hbw3
            go_loopw [73] (fun i wi => ∃ j : Nat, j ≤ hs.length ∧ i = .int .i64 j ∧ Hid (Below w3.heap.size w3 wi)) (fun i _ => hs.length - (intOf i).toNat)
            case atStart => exact ⟨0, by omega, rfl, hide (Below.refl _ _)⟩
            case round =>
              obtain ⟨j, hj, rfl, HI⟩ := hrel
              by_cases hjlt : j < hs.length
              · obtain ⟨h, hh, _⟩ := get_at hjlt
                have hbwi : Below w.heap.size w wr := (unhide HBW3).trans ((unhide HI).mono (unhide HBW3).size)
                obtain ⟨b, off, hp, hbl, hcell, hsl⟩ := ((unhide H1).below hbwi).at hh
                subst hp
                have hkl : k < h.l.length := by
                  have h4 := ml_mem (List.mem_of_getElem? hh)
                  rw [unhide HMM] at h4
                  omega
                obtain ⟨x, hx, _⟩ := get_at hkl
                obtain ⟨b1, o1, hq1, hb1, hc1⟩ := intAt hsl hx
                have hv0 := unhide HVAL j h hh
                rw [hx] at hv0
                obtain ⟨b2, o2, hq2, hb2, hc2⟩ := intAt ((unhide O3).ls.below (unhide HI)) hv0
                obtain ⟨hq, hc, hll⟩ := h
                dsimp only at hq1 hcell hkl
                subst hq1 hq2
                have ji0 : (0 : Int) ≤ (j : Int) := by omega
                have ji1 : (j : Int) < (hs.length : Int) := by omega
                have kk0 : (0 : Int) ≤ (k : Int) := by omega
                have kk1 : (k : Int) < (hll.length : Int) := by omega
                have hxx : (x != x) = false := by simp
                clear hx hv0 hsl hbwi hh
                go_wp2
                go_region_held3 (fun V => (V.cell? ⟨b2, o2 + j, none⟩ = some (.int .i64 x) ∧ V.cell? ⟨b, off + j, none⟩ = some (.slice (some ⟨b1, o1, none⟩) hll.length hc)) ∧ V.cell? ⟨b1, o1 + k, none⟩ = some (.int .i64 x)) (go_keep) (fail)
                all_goals
                  go_wp2
                  go_roundw
                  case rel => exact ⟨j + 1, by omega, by go_num, hide (unhide HI).drew⟩
                  case measure => simp [intOf]; omega
              · obtain rfl : hs.length = j := by omega
                have ji1 : ¬ (hs.length : Int) < (hs.length : Int) := by omega
                have F4 := hide ((unhide F3).below (unhide HI))
                have K4 := hide ((unhide K3).trans (Kpt.of (unhide HI)))
                go_wp2
                go_roundw
                case rel => exact ⟨k + 1, by omega, by go_num, F4, K4⟩
                case measure => simp [intOf]; omega
          · obtain rfl : m = k := by omega
            have ki2 : ¬ (m : Int) < (m : Int) := by omega
            have hnall : ¬ ∀ g ∈ gs, gs.count g ≤ ((lf g).drop m).length := fun h3 => by
              obtain ⟨g, hg, he⟩ := unhide HNO
              have h4 := h3 g hg
              rw [nodup_count (unhide HSr).nd hg, List.length_drop, he] at h4
              omega
            have hhd := heads_no qq cq gs wr hrw.ls (fun g hg => hg) (unhide HF) (by rw [unhide HGL]; omega) hnall
            rw [unhide HGL] at hhd
            have HRW := hide hrw
            have HBW2 := hide hbw2
            clear hnall hso hrw hBB hbw2
            go_wp2_with (go_at_call 17; refine hhd.mono ?_; rintro e w3 ⟨rfl, b3⟩; have F3 := hide ((unhide HF).below b3); have R3 := hide ((unhide HRW).below b3); have B3 := hide ((unhide HBW2).trans (b3.mono (unhide HBW2).size)); clear b3)
            go_loopw [96] (fun i wi => ∃ j : Nat, j ≤ hs.length ∧ i = .int .i64 j ∧ Hid (Below w3.heap.size w3 wi)) (fun i _ => hs.length - (intOf i).toNat)
            case atStart => exact ⟨0, by omega, rfl, hide (Below.refl _ _)⟩
            case round =>
              obtain ⟨j, hj, rfl, HI⟩ := hrel
              by_cases hjlt : j < hs.length
              · obtain ⟨h, hh, _⟩ := get_at hjlt
                have hbwi : Below w.heap.size w wr := (unhide B3).trans ((unhide HI).mono (unhide B3).size)
                obtain ⟨b, off, hp, hbl, hcell, hsl⟩ := ((unhide H1).below hbwi).at hh
                obtain ⟨g, hg, _⟩ := get_at (l := gs) (k := j) (by rw [unhide HGL]; exact hjlt)
                obtain ⟨bq, oq, hqq, hbql, hcq⟩ := ptrAt ((unhide R3).ls.below (unhide HI)) hg
                subst hp hqq
                have hlg := unhide HBe j h g hh hg
                have hml := ml_mem (List.mem_of_getElem? hh)
                rw [unhide HMM] at hml
                have hQg := ((unhide F3).below (unhide HI)).q g (List.mem_of_getElem? hg)
                rw [hlg, lists_eq h.l m hml] at hQg
                obtain ⟨G, hG⟩ : ∃ G, min h.l.length 16 = G := ⟨_, rfl⟩
                rw [hG] at hQg hml
                have hGl : G ≤ h.l.length := by omega
                have hGi : min (h.l.length : Int) 16 = (G : Int) := by omega
                have hslG := hsl.2.1
                have hcut := cut_sl (by decide) hsl m (G - m) (by omega)
                have hcl : ((h.l.drop m).take (G - m)).length = G - m := by rw [List.length_take, List.length_drop]; omega
                have hsc := fun W => slice_lhI h.q h.c h.l.length m G hml (by omega) W
                obtain ⟨D, hD⟩ : ∃ D, G - m = D := ⟨_, rfl⟩
                rw [hD] at hQg hcut hcl hsc
                have hallq := fun (W : World) (hW : W.heap = wr.heap) => allI g _ _ 16 _ W (hQg.hp hW)
                rw [hcl] at hallq
                have hsame := fun (W : World) (a : Option Addr) (ca : Nat) (ha : SlOf encI 1 W a ca ((h.l.drop m).take D)) (hW : Below wr.heap.size wr W) => memEqI a ca ((h.l.drop m).take D) _ _ ((h.l.drop m).take D) W ha (hcut.below hW) (by omega)
                rw [hcl, decide_eq_true rfl] at hsame
                have hcs : ∀ V, Below wr.heap.size wr V → V.cell? ⟨b, off + j, none⟩ = some (.slice h.q h.l.length h.c) := fun V hV => (hV.cell (p := ⟨b, off + j, none⟩) hbl).trans hcell
                have ji0 : (0 : Int) ≤ (j : Int) := by omega
                have ji1 : (j : Int) < (hs.length : Int) := by omega
                have HSAME := hide hsame
                have HALLQ := hide hallq
                have HCS := hide hcs
                clear hsame hallq hcs hQg hsl hcut hcl hbwi hh hg hlg hml hD hG
                go_wp2
                go_region_held3 (fun V => V.cell? ⟨b, off + j, none⟩ = some (.slice h.q h.l.length h.c)) (first | exact hcell | exact s5 | exact s6 | assumption) (first
                  | (go_at_call 14; have tst := unhide O5; clear tst; refine (unhide HSAME _ _ _ ((unhide O5).hpS (by rfl)) (by exact below_hp2 (unhide B5) (by rfl) (by rfl) (by rfl) (by rfl))).mono ?_; rintro e w6 ⟨rfl, b6⟩; have s6 := unhide HCS w6 ((unhide B5).trans ((below_hp (by rfl) (by rfl) (by rfl) (by rfl) b6).mono (by exact (unhide B5).size))); have B6 := hide ((unhide B5).trans ((below_hp (by rfl) (by rfl) (by rfl) (by rfl) b6).mono (by exact (unhide B5).size))); clear b6)
                  | (go_at_call 30; refine (unhide HALLQ _ (by rfl)).mono ?_; rintro e w5 ⟨⟨q5, c5, rfl, o5⟩, b5⟩; have bb5 : Below wr.heap.size wr w5 := (below_hp (by rfl) (by rfl) (by rfl) (by rfl) b5); have s5 := unhide HCS w5 bb5; have O5 := hide o5.ls; have B5 := hide bb5; clear o5 b5 bb5))
                all_goals
                  go_wp2
                  go_roundw
                  case rel => exact ⟨j + 1, by omega, by go_num, hide ((unhide HI).trans ((unhide B6).mono (unhide HI).size))⟩
                  case measure => simp [intOf]; omega
              · obtain rfl : hs.length = j := by omega
                have ji1 : ¬ (hs.length : Int) < (hs.length : Int) := by omega
                go_wp2
                go_ret
                exact ⟨rfl, (unhide B3).trans ((unhide HI).mono (unhide B3).size)⟩
end Go.Proofs.Ytfenkiplofnolaa
