/- QueueTypes: queues of texts and of items do as queues of numbers do. -/
import Derived.Test.YtfenkiplofnolaaTy1
import Derived.Shelf.Abstract
import Derived.Deep.Cut
namespace Go.Proofs.Ytfenkiplofnolaa
open Go.RowKit Go.Sort Go.Shelf

set_option maxHeartbeats 8000000 in
set_option maxRecDepth 100000 in
theorem types_law (room : Int) (p : Option Addr) (c : Nat) (ops : List Oq) (w : World) (h1 : OpsOf w p c ops) (hb : ops.length ≤ 1048576) (hl : ∀ o ∈ ops, o.l.length ≤ 1048576) :
    Calls Try.prog 5 #[.int .i64 room, .slice p ops.length c] w fun e w' => e = .returned (.bool true) ∧ Below w.heap.size w w' := by
  have mixed : Try.prog.follows .mixedOrders = true := by kernel_rfl
  have e21 : ∀ args w, (callFunc 21 args).run Try.prog w = .ok (.enter 21 args) w := enters_of Try.func21 (by kernel_rfl) rfl
  have e22 : ∀ args w, (callFunc 22 args).run Try.prog w = .ok (.enter 22 args) w := enters_of Try.func22 (by kernel_rfl) rfl
  have e25 : ∀ args w, (callFunc 25 args).run Try.prog w = .ok (.enter 25 args) w := enters_of Try.func25 (by kernel_rfl) rfl
  have hfx := fixed_any w
  obtain ⟨m, hm⟩ : ∃ m, roomN room = m := ⟨_, rfl⟩
  have hnew := fun W => newI room W
  have hnewS := fun W => newS room W
  have hnewT := fun W => newT room W
  rw [hm] at hnew hnewS hnewT
  have H1 := hide h1
  have HL := hide hl
  have n0 : (ops.length : Int) ≤ 1048576 := by omega
  clear h1 hl hm
  go_enter Try.func5, Try.ntmps5
  go_wp2_with (first
    | (go_at_call 7; refine hfx.mono ?_; rintro e w1 ⟨rfl, b1⟩; have B1 := hide b1; clear b1)
    | (go_at_call 8; refine (hnew w1).mono ?_; rintro e w2 ⟨rfl, i2, b2⟩; have I2 := hide i2; have B2 := hide b2; clear i2 b2)
    | (go_at_call 23; refine (hnewS w2).mono ?_; rintro e w3 ⟨rfl, i3, b3⟩; have I3 := hide i3; have B3 := hide b3; clear i3 b3)
    | (go_at_call 24; refine (hnewT w3).mono ?_; rintro e w4 ⟨rfl, i4, b4⟩; have I4 := hide i4; have B4 := hide b4; clear i4 b4))
  obtain ⟨L1, hL1⟩ : ∃ L, w1.heap.size = L := ⟨_, rfl⟩
  obtain ⟨L2, hL2⟩ : ∃ L, w2.heap.size = L := ⟨_, rfl⟩
  obtain ⟨L3, hL3⟩ : ∃ L, w3.heap.size = L := ⟨_, rfl⟩
  have hs12 := (unhide B2).size
  have hs23 := (unhide B3).size
  have hs34 := (unhide B4).size
  have hT : Tq L1 w4 L1 L2 L3 none 0 none 0 none 0 m [] [] [] := by
    rw [← hL1, ← hL2, ← hL3]
    exact ⟨((unhide I2).below (unhide B3)).below (unhide B4), (unhide I3).below (unhide B4), unhide I4, Hi.none (Nat.le_refl _), Hi.none hs12, Hi.none (by omega)⟩
  have hLw : L1 ≤ w4.heap.size := by omega
  have hB4 : Below w.heap.size w w4 := by
    have := (unhide B1).size
    exact (((unhide B1).trans ((unhide B2).mono this)).trans ((unhide B3).mono (by omega))).trans ((unhide B4).mono (by omega))
  have hwL : w.heap.size ≤ L1 := by rw [← hL1]; exact (unhide B1).size
  have HT := hide hT
  have HB4 := hide hB4
  rw [hL1, hL2, hL3]
  clear hT hB4 hL1 hL2 hL3 hs12 hs23 hs34 hnew hnewS hnewT hfx I2 I3 I4 B1 B2 B3 B4
  go_loopw [40] (fun i wr => ∃ (k : Nat) (q1 : Option Addr) (c1 : Nat) (q2 : Option Addr) (c2 : Nat) (q3 : Option Addr) (c3 : Nat) (l : List Int), k ≤ ops.length ∧ i = .int .i64 k ∧ Hid (Tq L1 wr L1 L2 L3 q1 c1 q2 c2 q3 c3 m l l l) ∧ Hid (Below L1 w4 wr)) (fun i _ => ops.length - (intOf i).toNat)
  case atStart => exact ⟨0, none, 0, none, 0, none, 0, [], by omega, rfl, HT, hide (Below.refl _ _)⟩
  case round =>
    obtain ⟨k, q1, c1, q2, c2, q3, c3, l, hk, rfl, HTr, HB⟩ := hrel
    have hbw : Below w.heap.size w wr := (unhide HB4).trans ((unhide HB).mono hwL)
    have hBr : L1 ≤ wr.heap.size := Nat.le_trans hLw (unhide HB).size
    have hlm := (unhide HTr).a.2.2.1
    by_cases hlt : k < ops.length
    · obtain ⟨o, ho, _⟩ := get_at hlt
      obtain ⟨b, off, hp, hbl, ⟨d0, d1, d2, d3⟩, hsl⟩ := ((unhide H1).below hbw).at ho
      subst hp
      have hol : o.l.length ≤ 1048576 := unhide HL o (List.mem_of_getElem? ho)
      have ki0 : (0 : Int) ≤ (k : Int) := by omega
      have ki1 : (k : Int) < (ops.length : Int) := by omega
      have HBW := hide hbw
      clear ho hbw
      obtain ⟨okind, owhich, oq, oc, ol, onn⟩ := o
      dsimp only at d0 d1 d2 d3 hsl hol
      by_cases hkind : okind = 2
      · subst hkind
        obtain ⟨nx, hnx⟩ : ∃ nx, ol.length = nx := ⟨_, rfl⟩
        rw [hnx] at d2
        have hnx2 : nx ≤ 1048576 := by rw [← hnx]; exact hol
        have hnx3 : (nx : Int) ≤ 1048576 := by omega
        obtain ⟨Z, hZ⟩ : ∃ Z, wr.alloc (.cells #[.int .i64 2, .int .i64 owhich, .slice oq nx oc, .int .i64 onn] 32) = Z := ⟨_, rfl⟩
        have bZ : Below wr.heap.size wr Z := by rw [← hZ]; exact alloc_b _ _
        have kZ : Z.heap[wr.heap.size]? = some (.cells #[.int .i64 2, .int .i64 owhich, .slice oq nx oc, .int .i64 onn] 32 (0, 0)) := by rw [← hZ]; exact box_nw _ _
        have hkZ : ∀ V, Below Z.heap.size Z V → V.cell? ⟨wr.heap.size, 2, none⟩ = some (.slice oq nx oc) := fun V hV => by
          have h1 := (hV.block wr.heap.size (Array.getElem?_eq_some_iff.1 kZ).1).trans kZ
          unfold World.cell?; simp [h1]
        have hzk : Z.cell? ⟨wr.heap.size, 0, none⟩ = some (.int .i64 2) := by unfold World.cell?; simp [kZ]
        have hz2 := hkZ Z (Below.refl _ _)
        have hxs : SlOf encI 1 Z oq oc ol := hsl.below bZ
        have TZ := hide ((unhide HTr).below bZ)
        have BZ := hide (bZ.mono hBr)
        have HKZ := hide hkZ
        have HXS := hide hxs
        have HNX := hide hnx
        have hZs := bZ.size
        have hBZ : L1 ≤ Z.heap.size := Nat.le_trans hBr bZ.size
        go_upto_region 9 with (fail)
        clear hkZ hxs kZ bZ hnx hsl hZ d0 d1 d2 d3 hol
        go_wp2
        go_loopw [10, 11, 50] (fun a b i wi => ∃ (j : Nat) (qa : Option Addr) (ca : Nat) (qb : Option Addr) (cb : Nat), j ≤ nx ∧ i = .int .i64 j ∧ a = .slice qa j ca ∧ b = .slice qb j cb ∧ Hid (OwnK encS 9 1 Z.heap.size wi qa ca ((ol.take j).map nm)) ∧ Hid (OwnK encT 58 2 Z.heap.size wi qb cb ((ol.take j).map it)) ∧ Hid (Below Z.heap.size Z wi)) (fun _ _ i _ => nx - (intOf i).toNat)
        case atStart => exact ⟨0, none, 0, none, 0, by omega, rfl, rfl, rfl, hide (OwnK.nil _ _), hide (OwnK.nil _ _), hide (Below.refl _ _)⟩
        case round =>
          obtain ⟨j, qa, ca, qb, cb, hj, rfl, rfl, rfl, HA, HBb, HZi⟩ := hrel
          by_cases hjlt : j < nx
          · obtain ⟨x, hx, _⟩ := get_at (l := ol) (k := j) (by rw [unhide HNX]; exact hjlt)
            obtain ⟨bx, ox, hqx, hbxl, hxc⟩ := intAt ((unhide HXS).below (unhide HZi)) hx
            subst hqx
            have ji0 : (0 : Int) ≤ (j : Int) := by omega
            have ji1 : (j : Int) < (nx : Int) := by omega
            have e1 : (ol.take (j + 1)).map nm = (ol.take j).map nm ++ [nm x] := by rw [take_snoc_of hx, List.map_append]; rfl
            have e2 : (ol.take (j + 1)).map it = (ol.take j).map it ++ [it x] := by rw [take_snoc_of hx, List.map_append]; rfl
            have la : ((ol.take j).map nm).length = j := by rw [List.length_map, List.length_take, unhide HNX]; omega
            have lb : ((ol.take j).map it).length = j := by rw [List.length_map, List.length_take, unhide HNX]; omega
            have HE1 := hide e1
            have HE2 := hide e2
            have HLA := hide la
            have HLB := hide lb
            clear e1 e2 la lb hx
            go_wp2_with (first
              | (go_at_call 25; have tst := unhide A5; clear tst; refine (name_any x _).mono ?_; rintro e w6 ⟨rfl, b6⟩; have A6 := hide ((unhide A5).below b6); have Bb6 := hide ((unhide Bb5).below b6); have Z6 := hide ((unhide Z5).trans (b6.mono (unhide Z5).size)); clear b6)
              | (go_at_call 25; refine (name_any x _).mono ?_; rintro e w4' ⟨rfl, b4'⟩; have A4 := hide ((unhide HA).below b4'); have Bb4 := hide ((unhide HBb).below b4'); have Z4 := hide ((unhide HZi).trans (b4'.mono (unhide HZi).size)); clear b4')
              | (at_builtin; refine wpList_appK rowS rfl (.tmp 54) (.tmp 57) rfl Z.heap.size qa ca ((ol.take j).map nm) (some ⟨w4'.heap.size, 0, none⟩) 1 [nm x] j 1 (j + 1) (unhide HLA) rfl rfl rfl rfl ((unhide A4).below (alloc_b w4' _)) (sl_lit (fun s => Value.string s) (l := [nm x]) (by simp [maxLen]) (box_nw w4' _)).src (by unfold maxLen; omega) (by omega) (by have := (unhide Z4).size; simp; omega) ?_; intro qa5 ca5 w5 o5 b5 s5; have A5 := hide o5; have Bb5 := hide (own_apart ((unhide Bb4).below (alloc_b w4' _)) ((unhide A4).below (alloc_b w4' _)) s5.1 (by decide)); have Z5 := hide (((unhide Z4).alloc (unhide Z4).size _).trans b5); clear o5 b5 s5)
              | (at_builtin; refine wpList_appK rowT rfl (.tmp 59) (.tmp 64) rfl Z.heap.size qb cb ((ol.take j).map it) (some ⟨w6.heap.size, 0, none⟩) 1 [it x] j 1 (j + 1) (unhide HLB) rfl rfl rfl rfl ((unhide Bb6).below (alloc_b w6 _)) (src_it (box_nw w6 _)) (by unfold maxLen; omega) (by omega) (by have := (unhide Z6).size; simp; omega) ?_; intro qb7 cb7 w7 o7 b7 s7; have Bb7 := hide o7; have A7 := hide (own_apart ((unhide A6).below (alloc_b w6 _)) ((unhide Bb6).below (alloc_b w6 _)) s7.1 (by decide)); have Z7 := hide (((unhide Z6).alloc (unhide Z6).size _).trans b7); clear o7 b7 s7))
            go_roundw
            case rel => exact ⟨j + 1, qa5, ca5, qb7, cb7, by omega, by go_num, rfl, rfl, hide (by rw [unhide HE1]; exact unhide A7), hide (by rw [unhide HE2]; exact unhide Bb7), Z7⟩
            case measure => simp [intOf]; omega
          · obtain rfl : nx = j := by omega
            have ji1 : ¬ (nx : Int) < (nx : Int) := by omega
            have hz3 := unhide HKZ _ (unhide HZi)
            obtain ⟨N, hN⟩ : ∃ N, min nx (m - l.length) = N := ⟨_, rfl⟩
            have hti := (unhide TZ).below (unhide HZi)
            have hBi : L1 ≤ wr.heap.size := Nat.le_trans hBZ (unhide HZi).size
            have hput := tput1 hti oq oc ol nx N (unhide HNX) hN ((unhide HXS).below (unhide HZi)) hnx2
            have hA := unhide HA
            have hBb := unhide HBb
            rw [List.take_of_length_le (by rw [unhide HNX]; exact Nat.le_refl _)] at hA hBb
            obtain ⟨l', hl'⟩ : ∃ l', l ++ ol.take (m - l.length) = l' := ⟨_, rfl⟩
            rw [hl'] at hput
            have hb0 : ((N : Int) != (N : Int)) = false := by simp
            have BI := hide ((unhide BZ).trans ((unhide HZi).mono hBZ))
            have TI := hide hti
            have RA := hide hA
            have RB := hide hBb
            have HHN := hide hN
            have HL' := hide hl'
            clear hti hA hBb hN hl' HA HBb
            go_wp2_with (first
              | (go_at_call 11; refine hput.mono ?_; rintro e w5 ⟨rfl, q5, c5, i5, m5⟩; obtain ⟨t5, b5⟩ := (unhide TI).m1 i5 m5 hBi; have RA5 := hide (row_apart (unhide RA) (unhide TI).a m5 (by decide)); have RB5 := hide (row_apart (unhide RB) (unhide TI).a m5 (by decide)); have T5 := hide t5; have B5 := hide ((unhide BI).trans b5); clear i5 m5 t5 b5)
              | (go_at_call 26; refine (tput2 (unhide T5) qa ca ol nx N (unhide HNX) (unhide HHN) (unhide RA5).ls hnx2).mono ?_; rintro e w6 ⟨rfl, q6, c6, i6, m6⟩; rw [unhide HL'] at i6; obtain ⟨t6, b6⟩ := (unhide T5).m2 i6 m6 (Nat.le_trans hBr (unhide B5).size); have RB6 := hide (row_apart (unhide RB5) (unhide T5).b m6 (by decide)); have T6 := hide t6; have B6 := hide ((unhide B5).trans b6); clear i6 m6 t6 b6)
              | (go_at_call 27; refine (tput3 (unhide T6) qb cb ol nx N (unhide HNX) (unhide HHN) (unhide RB6).ls hnx2).mono ?_; rintro e w7 ⟨rfl, q7, c7, i7, m7⟩; rw [unhide HL'] at i7; obtain ⟨t7, b7⟩ := (unhide T6).m3 i7 m7 (Nat.le_trans hBr (unhide B6).size); have T7 := hide t7; have B7 := hide ((unhide B6).trans b7); clear i7 m7 t7 b7))
            obtain ⟨n9, hn9⟩ : ∃ n9, l'.length = n9 := ⟨_, rfl⟩
            have hlm9 := (unhide T7).a.2.2.1
            obtain ⟨d9, hd9⟩ : ∃ d9, l'.length + d9 = m := ⟨m - l'.length, by omega⟩
            have t9 := unhide T7
            have f1 := fun (V : World) (hV : Below w7.heap.size w7 V) => lenG _ _ _ _ n9 _ V (t9.a.below hV) hn9
            have f2 := fun (V : World) (hV : Below w7.heap.size w7 V) => lenG _ _ _ _ n9 _ V (t9.b.below hV) (by rw [List.length_map]; exact hn9)
            have f3 := fun (V : World) (hV : Below w7.heap.size w7 V) => roomG _ _ _ _ d9 _ V (t9.a.below hV) hd9
            have f4 := fun (V : World) (hV : Below w7.heap.size w7 V) => roomG _ _ _ _ d9 _ V (t9.c.below hV) (by rw [List.length_map]; exact hd9)
            have hb1 : ((n9 : Int) != (n9 : Int)) = false := by simp
            have hb2 : ((d9 : Int) != (d9 : Int)) = false := by simp
            clear hn9 hlm9 hd9 t9
            refine wp_region_quiet_below (by assumption) (by kernel_rfl) ?_
            repeat (go_big_quiet_step (fail))
            go_big_quiet_want
            go_big_quiet_op
            go_big_quiet_call ((go_at_fn 22; refine Calls.regrown_of (f2 _ (below_regrown _ _ _))))
            repeat (go_big_quiet_step (fail))
            go_big_quiet_want
            go_big_quiet_op
            go_big_quiet_call ((go_at_fn 22; refine Calls.regrown_of (f1 _ (below_regrown _ _ _))))
            repeat (go_big_quiet_step (fail))
            go_big_quiet_want
            go_big_quiet_op
            go_big_quiet_call ((go_at_fn 21; refine Calls.regrown_of (f4 _ (below_regrown _ _ _))))
            repeat (go_big_quiet_step (fail))
            go_big_quiet_want
            go_big_quiet_op
            go_big_quiet_call ((go_at_fn 21; refine Calls.regrown_of (f3 _ (below_regrown _ _ _))))
            repeat (go_big_quiet_step (fail))
            refine wpQuiet_nil ?_
            intro _ hw'
            obtain ⟨⟨dq, osq⟩, hw''⟩ := hw'
            subst hw''
            clear f1 f2 f3 f4
            go_wp2
            go_roundw
            case rel => exact ⟨k + 1, _, _, _, _, _, _, l', by omega, by go_num, hide ((unhide T7).below (below_regrown _ _ _)), hide ((unhide HB).trans ((unhide B7).trans ((below_regrown _ _ _).mono (Nat.le_trans hBr (unhide B7).size))))⟩
            case measure => simp [intOf]; omega
      · have hkb : (okind == 2) = false := by simpa using hkind
        have hkb2 : ¬ okind = 2 := hkind
        obtain ⟨nx, hnx⟩ : ∃ nx, ol.length = nx := ⟨_, rfl⟩
        rw [hnx] at d2
        obtain ⟨Z, hZ⟩ : ∃ Z, wr.alloc (.cells #[.int .i64 okind, .int .i64 owhich, .slice oq nx oc, .int .i64 onn] 32) = Z := ⟨_, rfl⟩
        have bZ : Below wr.heap.size wr Z := by rw [← hZ]; exact alloc_b _ _
        have kZ : Z.heap[wr.heap.size]? = some (.cells #[.int .i64 okind, .int .i64 owhich, .slice oq nx oc, .int .i64 onn] 32 (0, 0)) := by rw [← hZ]; exact box_nw _ _
        have hkZ : ∀ V : World, V.heap[wr.heap.size]? = Z.heap[wr.heap.size]? → V.cell? ⟨wr.heap.size, 3, none⟩ = some (.int .i64 onn) := fun V hV => by
          have h1 := hV.trans kZ
          unfold World.cell?; simp [h1]
        have hzk : Z.cell? ⟨wr.heap.size, 0, none⟩ = some (.int .i64 okind) := by unfold World.cell?; simp [kZ]
        have hz3 := hkZ Z rfl
        have hkm : ∀ (V V' : World) (L : Nat) (q q' : Option Addr), V.heap[wr.heap.size]? = Z.heap[wr.heap.size]? → Mv V V' L q q' → (∀ i, Ft L q i → i ≠ wr.heap.size) → wr.heap.size < V.heap.size → V'.heap[wr.heap.size]? = Z.heap[wr.heap.size]? := fun V V' L q q' hV hm hne hs => (hm.1.block _ (fun hf => hne _ hf rfl) hs).trans hV
        obtain ⟨cN, hcN⟩ : ∃ cN, takeN onn l.length = cN := ⟨_, rfl⟩
        have hcle : cN ≤ l.length := by rw [← hcN]; exact takeN_le _ _
        have tz := (unhide HTr).below bZ
        have h13 := fun (W : World) (hW : W.heap = Z.heap) => takeI L1 q1 c1 m l onn W (tz.a.hp hW)
        rw [hcN] at h13
        have h28 := fun (W : World) (l1' l3' : List Int) (q1' : Option Addr) (c1' : Nat) (q3' : Option Addr) (c3' : Nat) (t : Tq L1 W L1 L2 L3 q1' c1' q2 c2 q3' c3' m l1' l l3') => ttake2 t onn
        simp only [hcN] at h28
        have h29 := fun (W : World) (l1' l2' : List Int) (q1' : Option Addr) (c1' : Nat) (q2' : Option Addr) (c2' : Nat) (t : Tq L1 W L1 L2 L3 q1' c1' q2' c2' q3 c3 m l1' l2' l) => ttake3 t onn
        simp only [hcN] at h29
        have TZ := hide tz
        have BZ := hide (bZ.mono hBr)
        have hBZ : L1 ≤ Z.heap.size := Nat.le_trans hBr bZ.size
        have hZlt : wr.heap.size < Z.heap.size := (Array.getElem?_eq_some_iff.1 kZ).1
        have HKZ := hide hkZ
        have HKM := hide hkm
        have H28 := hide h28
        have H29 := hide h29
        have HF1 := hide (fun i (hi : Ft L1 q1 i) => Nat.ne_of_lt ((unhide HTr).a.ftlt hi))
        have HF2 := hide (fun i (hi : Ft L2 q2 i) => Nat.ne_of_lt ((unhide HTr).b.ftlt hi))
        have HF3 := hide (fun i (hi : Ft L3 q3 i) => Nat.ne_of_lt ((unhide HTr).c.ftlt hi))
        go_upto_region 20 with (fail)
        clear hkZ kZ bZ hnx hsl hZ d0 d1 d2 d3 hol hkm hcN tz h28 h29 hkind
        obtain ⟨bx, hbx⟩ : ∃ bx, wr.heap.size = bx := ⟨_, rfl⟩
        rw [hbx] at HKZ HKM hz3 hzk hZlt HF1 HF2 HF3
        go_region_held3 (fun V => V.cell? ⟨bx, 3, none⟩ = some (.int .i64 onn)) (first | exact hz3 | exact s7 | exact s6 | exact s5 | assumption) (first
          | (go_at_call 29; have tst := unhide Y6; clear tst; refine (unhide H29 _ _ _ _ _ _ _ ((unhide T6).hp (by rfl))).mono ?_; rintro e w7 ⟨⟨qv, cv, rfl, ov⟩, i7, m7⟩; obtain ⟨t7, b7⟩ := ((unhide T6).hp (by rfl)).m3 i7 m7 (by exact Nat.le_trans hBr (unhide B6).size); have k7 := unhide HKM _ _ _ _ _ (by exact unhide K6) m7 (unhide HF3) (by exact unhide LT6); have s7 := unhide HKZ _ k7; have X7 := hide (row_apart (own_heap (by rfl) (unhide X6)) ((unhide T6).hp (by rfl)).c m7 (by decide)); have Y7 := hide (row_apart (own_heap (by rfl) (unhide Y6)) ((unhide T6).hp (by rfl)).c m7 (by decide)); have V7 := hide ov; have T7 := hide t7; have B7 := hide (Below.trans (unhide B6) (below_hp (by rfl) (by rfl) (by rfl) (by rfl) b7)); clear i7 m7 t7 b7 ov k7)
          | (go_at_call 28; have tst := unhide X5; clear tst; refine (unhide H28 _ _ _ _ _ _ _ ((unhide T5).hp (by rfl))).mono ?_; rintro e w6 ⟨⟨qy, cy, rfl, oy⟩, i6, m6⟩; obtain ⟨t6, b6⟩ := ((unhide T5).hp (by rfl)).m2 i6 m6 (by exact Nat.le_trans hBr (unhide B5).size); have k6 := unhide HKM _ _ _ _ _ (by exact unhide K5) m6 (unhide HF2) (by exact unhide LT5); have s6 := unhide HKZ _ k6; have X6 := hide (row_apart (own_heap (by rfl) (unhide X5)) ((unhide T5).hp (by rfl)).b m6 (by decide)); have Y6 := hide oy; have T6 := hide t6; have B6 := hide (Below.trans (unhide B5) (below_hp (by rfl) (by rfl) (by rfl) (by rfl) b6)); have K6 := hide k6; have LT6 := hide (Nat.lt_of_lt_of_le (unhide LT5) m6.1.size); clear i6 m6 t6 b6 oy k6)
          | (go_at_call 13; refine (h13 _ (by rfl)).mono ?_; rintro e w5 ⟨⟨qx, cx, rfl, ox⟩, i5, m5⟩; obtain ⟨t5, b5⟩ := ((unhide TZ).hp (by rfl)).m1 i5 m5 (by exact hBZ); have k5 := unhide HKM _ _ _ _ _ (by rfl) m5 (unhide HF1) (by exact hZlt); have s5 := unhide HKZ _ k5; have X5 := hide ox; have T5 := hide t5; have B5 := hide (Below.trans (unhide BZ) (below_hp (by rfl) (by rfl) (by rfl) (by rfl) b5)); have K5 := hide k5; have LT5 := hide (Nat.lt_of_lt_of_le hZlt m5.1.size); clear i5 m5 t5 b5 ox k5))
        have hxl : (l.take cN).length = cN := by rw [List.length_take]; omega
        have hcn16 : cN ≤ 16 := by have := (unhide HTr).a.2.2.2.2; omega
        have hb0 : ((cN : Int) != (cN : Int)) = false := by simp
        have cN3 : (cN : Int) ≤ 16 := by omega
        clear s5 s6 s7 hz3 hzk
        rename_i hHeld
        clear hHeld
        go_wp2
        go_loopw [109] (fun i wi => ∃ (j : Nat), j ≤ cN ∧ i = .int .i64 j ∧ Hid (Below w7.heap.size w7 wi)) (fun i _ => cN - (intOf i).toNat)
        case atStart => exact ⟨0, by omega, rfl, hide (Below.refl _ _)⟩
        case round =>
          obtain ⟨j, hj, rfl, HZi⟩ := hrel
          by_cases hjlt : j < cN
          · obtain ⟨x, hx, _⟩ := get_at (l := l.take cN) (k := j) (by omega)
            obtain ⟨b1, o1, hq1, hb1l, hxc⟩ := intAt ((unhide X7).ls.below (unhide HZi)) hx
            obtain ⟨b2, o2, hq2, hb2l, hyc⟩ := ((unhide Y7).ls.below (unhide HZi)).2.2.2.at (j := j) (x := nm x) (by rw [List.getElem?_map, hx]; rfl)
            obtain ⟨b3, o3, hq3, hb3l, hvc⟩ := ((unhide V7).ls.below (unhide HZi)).2.2.2.at (j := j) (x := it x) (by rw [List.getElem?_map, hx]; rfl)
            have y0 := hyc 0 (by omega)
            have v0 := hvc 0 (by omega)
            have v1 := hvc 1 (by omega)
            rw [Nat.mul_one] at y0
            have y0' : wr.cell? ⟨b2, o2 + j, none⟩ = some (.string (nm x)) := y0
            have v0' : wr.cell? ⟨b3, o3 + j * 2, none⟩ = some (.string (nm x)) := v0
            have v1' : wr.cell? ⟨b3, o3 + j * 2 + 1, none⟩ = some (.int .i64 x) := v1
            have g0 := cell_regrown y0'
            have g1 := cell_regrown v0'
            have g2 := cell_regrown v1'
            have hna := fun (V : World) => name_any x V
            have hnt := fun (V : World) => neqT (nm x) x V
            have hbs : ((nm x) != (nm x)) = false := by unfold bne; rw [(MapKept.bytes_beq _ _).2 rfl]; rfl
            generalize nm x = sx at *
            subst hq1 hq2 hq3
            have ji0 : (0 : Int) ≤ (j : Int) := by omega
            have ji1 : (j : Int) < (cN : Int) := by omega
            clear hx hyc hvc y0 v0 v1 y0' v0' v1'
            go_wp2
            refine wp_region_quiet_below (by assumption) (by kernel_rfl) ?_
            repeat (go_big_quiet_step (first | (go_at_fn 25; refine Calls.regrown_of (hna _))))
            refine wpQuiet_nil ?_
            intro _ hw'
            obtain ⟨⟨dq, osq⟩, hw''⟩ := hw'
            subst hw''
            clear g0 g1 g2 hna hnt
            go_wp2
            go_roundw
            case rel => exact ⟨j + 1, by omega, by go_num, hide ((unhide HZi).trans ((below_regrown _ _ _).mono (unhide HZi).size))⟩
            case measure => simp [intOf]; omega
          · obtain rfl : cN = j := by omega
            have ji1 : ¬ (cN : Int) < (cN : Int) := by omega
            have TI := hide ((unhide T7).below (unhide HZi))
            have BI := hide ((unhide B7).trans ((unhide HZi).mono (Nat.le_trans hBr (unhide B7).size)))
            go_wp2
            obtain ⟨n9, hn9⟩ : ∃ n9, (l.drop cN).length = n9 := ⟨_, rfl⟩
            have hlm9 := (unhide TI).a.2.2.1
            obtain ⟨d9, hd9⟩ : ∃ d9, (l.drop cN).length + d9 = m := ⟨m - (l.drop cN).length, by omega⟩
            have t9 := unhide TI
            have f1 := fun (V : World) (hV : Below wr.heap.size wr V) => lenG _ _ _ _ n9 _ V (t9.a.below hV) hn9
            have f2 := fun (V : World) (hV : Below wr.heap.size wr V) => lenG _ _ _ _ n9 _ V (t9.b.below hV) (by rw [List.length_map]; exact hn9)
            have f3 := fun (V : World) (hV : Below wr.heap.size wr V) => roomG _ _ _ _ d9 _ V (t9.a.below hV) hd9
            have f4 := fun (V : World) (hV : Below wr.heap.size wr V) => roomG _ _ _ _ d9 _ V (t9.c.below hV) (by rw [List.length_map]; exact hd9)
            have hb1 : ((n9 : Int) != (n9 : Int)) = false := by simp
            have hb2 : ((d9 : Int) != (d9 : Int)) = false := by simp
            clear hn9 hlm9 hd9 t9
            refine wp_region_quiet_below (by assumption) (by kernel_rfl) ?_
            repeat (go_big_quiet_step (fail))
            go_big_quiet_want
            go_big_quiet_op
            go_big_quiet_call ((go_at_fn 22; refine Calls.regrown_of (f2 _ (below_regrown _ _ _))))
            repeat (go_big_quiet_step (fail))
            go_big_quiet_want
            go_big_quiet_op
            go_big_quiet_call ((go_at_fn 22; refine Calls.regrown_of (f1 _ (below_regrown _ _ _))))
            repeat (go_big_quiet_step (fail))
            go_big_quiet_want
            go_big_quiet_op
            go_big_quiet_call ((go_at_fn 21; refine Calls.regrown_of (f4 _ (below_regrown _ _ _))))
            repeat (go_big_quiet_step (fail))
            go_big_quiet_want
            go_big_quiet_op
            go_big_quiet_call ((go_at_fn 21; refine Calls.regrown_of (f3 _ (below_regrown _ _ _))))
            repeat (go_big_quiet_step (fail))
            refine wpQuiet_nil ?_
            intro _ hw'
            obtain ⟨⟨dq, osq⟩, hw''⟩ := hw'
            subst hw''
            clear f1 f2 f3 f4
            go_wp2
            go_roundw
            case rel => exact ⟨k + 1, _, _, _, _, _, _, (l.drop cN), by omega, by go_num, hide ((unhide TI).below (below_regrown _ _ _)), hide ((unhide HB).trans ((unhide BI).trans ((below_regrown _ _ _).mono (Nat.le_trans hBr (unhide BI).size))))⟩
            case measure => simp [intOf]; omega
    · obtain rfl : k = ops.length := by omega
      have ki1 : ¬ (ops.length : Int) < (ops.length : Int) := by omega
      have HBW := hide hbw
      clear hbw
      go_wp2
      go_ret
      exact ⟨rfl, unhide HBW⟩
end Go.Proofs.Ytfenkiplofnolaa
