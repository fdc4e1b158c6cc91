/- QueueOrder: what is taken is what was put. -/
import Derived.Test.YtfenkiplofnolaaOr1
import Derived.Shelf.Abstract
namespace Go.Proofs.Ytfenkiplofnolaa
open Go.RowKit Go.Sort Go.Shelf

set_option maxHeartbeats 8000000 in
set_option maxRecDepth 100000 in
theorem order_law (room : Int) (p : Option Addr) (c : Nat) (hs : List Hl) (pt : Option Addr) (ct : Nat) (ts : List Int) (w : World) (h1 : HlsOf w p c hs) (h2 : SlOf encI 1 w pt ct ts) (hb : hs.length ≤ 1048576) (hl : ∀ h ∈ hs, h.l.length ≤ 1048576) (ht : ts.length ≤ 1048576) :
    Calls Try.prog 4 #[.int .i64 room, .slice p hs.length c, .slice pt ts.length ct] w fun e w' => e = .returned (.bool true) ∧ Below w.heap.size w w' := by
  have mixed : Try.prog.follows .mixedOrders = true := by kernel_rfl
  have e21 : ∀ args w, (callFunc 21 args).run Try.prog w = .ok (.enter 21 args) w := enters_of Try.func21 (by kernel_rfl) rfl
  have e22 : ∀ args w, (callFunc 22 args).run Try.prog w = .ok (.enter 22 args) w := enters_of Try.func22 (by kernel_rfl) rfl
  have hfx := fixed_any w
  obtain ⟨m, hm⟩ : ∃ m, roomN room = m := ⟨_, rfl⟩
  have hm1 : 1 ≤ m ∧ m ≤ 16 := by rw [← hm]; exact roomN_le _
  have hnew := fun W => newI room W
  rw [hm] at hnew
  have hroom := fun (W : World) (L : Nat) (hQ : QIn encI 3 1 51 W L none 0 m []) => roomQ L _ 51 W 0 m m hQ.1 (Nat.zero_add _) hm1.2
  have H1 := hide h1
  have H2 := hide h2
  have HL := hide hl
  have n0 : (hs.length : Int) ≤ 1048576 := by omega
  have n1 : (ts.length : Int) ≤ 1048576 := by omega
  have n2 : (m : Int) ≤ 16 := by omega
  have n3 : 1 ≤ (m : Int) := by omega
  clear h1 h2 hl hm
  go_enter Try.func4, Try.ntmps4
  go_wp2_with (first
    | (go_at_call 7; refine hfx.mono ?_; rintro e w1 ⟨rfl, b1⟩; have B1 := hide b1; clear b1)
    | (go_at_call 8; refine (hnew w1).mono ?_; rintro e w2 ⟨rfl, i2, b2⟩; have I2 := hide i2; have B2 := hide b2; clear i2 b2)
    | (go_at_call 21; refine (hroom _ _ (unhide I2)).mono ?_; rintro e w3 ⟨rfl, rfl⟩))
  obtain ⟨L, hL⟩ : ∃ L, w1.heap.size = L := ⟨_, rfl⟩
  obtain ⟨w3, hw3⟩ : ∃ w3, w2.drew = w3 := ⟨_, rfl⟩
  have hT : Tri L w3 L none 0 m [] none 0 [] none 0 [] := by
    refine ⟨?_, OwnK.nil _ _, OwnK.nil _ _, Hi.none (Nat.le_refl _), fun i hi => by simp at hi, fun i hi => by simp at hi, fun i hi => by simp at hi⟩
    rw [← hw3, ← hL]
    exact unhide I2
  have hLw : L ≤ w3.heap.size := Nat.le_of_lt hT.Q.lt
  have hB3 : Below w.heap.size w w3 := by
    rw [← hw3]
    exact ((unhide B1).trans ((unhide B2).mono (unhide B1).size)).drew
  have hwL : w.heap.size ≤ L := by rw [← hL]; exact (unhide B1).size
  have HT := hide hT
  have HB3 := hide hB3
  rw [hw3, hL]
  clear hT hB3 hw3 hL hnew hroom hfx I2 B1 B2
  go_loopw [9, 10, 26] (fun a b i wr => ∃ (k : Nat) (q : Option Addr) (cap : Nat) (l : List Int) (qi : Option Addr) (ci : Nat) (inL : List Int) (qo : Option Addr) (co : Nat) (outL : List Int) (ni no : Nat), k ≤ hs.length ∧ i = .int .i64 k ∧ a = .slice qi ni ci ∧ b = .slice qo no co ∧ Hid (ni = inL.length ∧ no = outL.length) ∧ Hid (Tri L wr L q cap m l qi ci inL qo co outL) ∧ Hid (inL = outL ++ l ∧ inL.length ≤ 16 * k) ∧ Hid (Below L w3 wr)) (fun _ _ i _ => hs.length - (intOf i).toNat)
  case atStart => exact ⟨0, none, 0, [], none, 0, [], none, 0, [], 0, 0, by omega, rfl, rfl, rfl, hide ⟨rfl, rfl⟩, HT, hide ⟨rfl, by simp⟩, hide (Below.refl _ _)⟩
  case round =>
    obtain ⟨k, q, cap, l, qi, ci, inL, qo, co, outL, ni, no, hk, rfl, rfl, rfl, HN, HTr, HI, HB⟩ := hrel
    have hbw : Below w.heap.size w wr := (unhide HB3).trans ((unhide HB).mono hwL)
    have hLr : L ≤ wr.heap.size := Nat.le_trans hLw (unhide HB).size
    by_cases hlt : k < hs.length
    · obtain ⟨h, hh, _⟩ := get_at hlt
      obtain ⟨b, off, hp, hbl, hcell, hsl⟩ := ((unhide H1).below hbw).at hh
      subst hp
      have hhl : h.l.length ≤ 1048576 := unhide HL h (List.mem_of_getElem? hh)
      obtain ⟨hni, hno⟩ := unhide HN
      obtain ⟨hio, hi16⟩ := unhide HI
      have hlm := (unhide HTr).Q.2.2.1
      have hput := putI L q cap m l h.q h.c h.l wr (unhide HTr).Q hsl (by omega)
      obtain ⟨d, hd⟩ : ∃ d, m - l.length = d := ⟨_, rfl⟩
      rw [hd] at hput
      obtain ⟨n, hn⟩ : ∃ n, min h.l.length d = n := ⟨_, rfl⟩
      rw [hn] at hput
      have htk : h.l.take d = h.l.take n := by
        by_cases hxd : h.l.length ≤ d
        · rw [List.take_of_length_le hxd, List.take_of_length_le (by omega)]
        · rw [show n = d by omega]
      rw [htk] at hput
      obtain ⟨l2, hl2⟩ : ∃ l2, l ++ h.l.take n = l2 := ⟨_, rfl⟩
      rw [hl2] at hput
      have htl : (h.l.take n).length = n := by rw [List.length_take]; omega
      have hl2n : l2.length = l.length + n := by rw [← hl2, List.length_append, htl]
      obtain ⟨NI, hNI⟩ : ∃ NI, ni + n = NI := ⟨_, rfl⟩
      have hin2 : inL ++ h.l.take n = outL ++ l2 := by rw [hio, List.append_assoc, hl2]
      have hNIl : (inL ++ h.l.take n).length = NI := by rw [List.length_append, htl, ← hni]; exact hNI
      have hnol : no ≤ ni := by rw [hni, hno, hio, List.length_append]; omega
      have hNI16 : NI ≤ 16 * (k + 1) := by omega
      have ki0 : (0 : Int) ≤ (k : Int) := by omega
      have ki1 : (k : Int) < (hs.length : Int) := by omega
      have nn0 : ¬ (n : Int) < 0 := by omega
      have nn1 : ¬ (h.l.length : Int) < (n : Int) := by omega
      have nn2 : (0 : Int) ≤ (n : Int) := by omega
      have nn3 : (n : Int) ≤ (h.c : Int) := by have := hsl.2.1; omega
      have wm := wrap_nat m (by omega)
      have HH := hide hh
      have HSL := hide hsl
      have HSLT := hide (fun (W : World) (hB : Below wr.heap.size wr W) => take_sl (k := 1) (by decide) (hsl.below hB) n (by omega))
      have HTL := hide htl
      have HIN2 := hide hin2
      have HNIL := hide hNIl
      have HL2N := hide hl2n
      have HNI := hide hNI
      have HBW := hide hbw
      have HHN := hide hn
      have HHD := hide hd
      clear hh hsl htl hin2 hNIl hl2n hNI hbw hl2 htk hio hi16 hni hno hd hn
      by_cases hfull : n < h.l.length
      · by_cases htk : k < ts.length
        · have nf : (n : Int) < (h.l.length : Int) := by omega
          have hl2m : l2.length = m := by have := unhide HL2N; have := unhide HHN; have := unhide HHD; omega
          have hroom := fun (W : World) (q' : Option Addr) (c' : Nat) (hQ : QIn encI 3 1 51 W L q' c' m l2) => roomQ L _ 51 W l2.length m 0 hQ.1 (by omega) hm1.2
          have HROOM := hide hroom
          clear hroom hl2m
          obtain ⟨x, hx, _⟩ := get_at htk
          obtain ⟨bt, ot, hpt, hbtl, hxc⟩ := intAt ((unhide H2).below (unhide HBW)) hx
          have hwhole : w.heap.size ≤ wr.heap.size := (unhide HBW).size
          have hxcs : ∀ W, Below w.heap.size w W → W.cell? ⟨bt, ot + k, none⟩ = some (.int .i64 x) := fun W hW => by
            obtain ⟨bt', ot', hpt', _, hxc'⟩ := intAt ((unhide H2).below hW) hx
            rw [hpt] at hpt'
            injection hpt' with hpt'
            injection hpt' with e1 e2
            rw [e1, e2]
            exact hxc'
          obtain ⟨cN, hcN⟩ : ∃ cN, takeN x l2.length = cN := ⟨_, rfl⟩
          have hcle : cN ≤ l2.length := by rw [← hcN]; exact takeN_le _ _
          have htake := fun (W : World) (q' : Option Addr) (c' : Nat) (hQ : QIn encI 3 1 51 W L q' c' m l2) => takeI L q' c' m l2 x W hQ
          rw [hcN] at htake
          obtain ⟨l3, hl3⟩ : ∃ l3, l2.drop cN = l3 := ⟨_, rfl⟩
          rw [hl3] at htake
          have htl3 : (l2.take cN).length = cN := by rw [List.length_take]; omega
          have hl3n : l3.length = l2.length - cN := by rw [← hl3, List.length_drop]
          obtain ⟨NO, hNO⟩ : ∃ NO, no + cN = NO := ⟨_, rfl⟩
          have hout3 : inL ++ h.l.take n = (outL ++ l2.take cN) ++ l3 := by rw [unhide HIN2, List.append_assoc, ← hl3, List.take_append_drop]
          have hNOl : (outL ++ l2.take cN).length = NO := by rw [List.length_append, htl3, ← (unhide HN).2]; exact hNO
          have kt1 : (k : Int) < (ts.length : Int) := by omega
          subst hpt
          have hx0 := hxc
          have hNOb : NO ≤ NI := by have e1 := congrArg List.length hout3; rw [unhide HNIL, List.length_append, hNOl] at e1; omega
          have HX := hide hxcs
          have HTAKE := hide htake
          have HTL3 := hide htl3
          have HOUT3 := hide hout3
          have HNOL := hide hNOl
          have HNO := hide hNO
          have HL3N := hide hl3n
          have HHX := hide hx
          clear hxcs htake htl3 hout3 hNOl hNO hl3n hx hxc hx0 hl3 hcN
          have HSRC := hide (show ∀ (W : World), Below L wr W → SrcK encI 1 W h.q h.c (h.l.take n) from fun W hW => (take_sl (by decide) ((((unhide H1).below ((unhide HBW).trans (hW.mono hwL))).at (unhide HH)) |> fun ⟨_, _, _, _, _, h6⟩ => h6) n (by omega)).src)
          go_wp2_with (first
            | (go_at_call 11; refine hput.mono ?_; rintro e w4 ⟨rfl, q4, c4, i4, m4⟩; have T4 := hide ((unhide HTr).mv i4 m4 hLr); have B4 := hide (m4.below (unhide HTr).hi hLr); have M4 := hide m4; clear i4 m4)
            | (go_at_call 21; refine (unhide HROOM w4 q4 c4 (unhide T4).Q).mono ?_; rintro e w4d ⟨rfl, hw4d⟩; have T4d := hide (show Tri L w4d L q4 c4 m l2 qi ci inL qo co outL from by rw [hw4d]; exact (unhide T4).below (Below.refl _ _).drew); have B4d := hide (show Below L wr w4d from by rw [hw4d]; exact (unhide B4).drew); have K4d := hide (show Kpt (fun i => ¬ Ft L q i) wr w4d from by rw [hw4d]; exact (unhide M4).1.trans (Kpt.of (Below.refl _ _).drew)); clear hw4d)
            | (at_builtin; refine wpList_appK rowI rfl (.tmp 55) (.tmp 58) rfl L qi ci inL h.q h.c (h.l.take n) ni n NI (unhide HN).1.symm (unhide HTL) (unhide HNI) rfl rfl (unhide T4d).I (unhide HSRC w4d (unhide B4d)) (by unfold maxLen; omega) (by omega) (Nat.le_trans hLr (unhide B4d).size) ?_; intro qi5 ci5 w5 o5 b5 s5; have T5 := hide ((unhide T4d).appI s5 o5); have B5 := hide ((unhide B4d).trans b5); have x5 := unhide HX w5 ((unhide HBW).trans ((unhide B5).mono hwL)); clear o5 b5 s5)
            | (go_at_call 13; refine (unhide HTAKE w5 _ _ (unhide T5).Q).mono ?_; rintro e w6 ⟨⟨q6, c6, rfl, o6⟩, i6, m6⟩; have T6 := hide ((unhide T5).mv i6 m6 (Nat.le_trans hLr (unhide B5).size)); have O6 := hide o6; have B6 := hide ((unhide B5).trans (m6.below (unhide T5).hi (Nat.le_trans hLr (unhide B5).size))); clear o6 i6 m6)
            | (at_builtin; refine wpList_appK rowI rfl (.tmp 64) (.tmp 70) rfl L qo co outL q6 c6 (l2.take cN) no cN NO (unhide HN).2.symm (unhide HTL3) (unhide HNO) rfl rfl (unhide T6).O (unhide O6).ls.src (by unfold maxLen; omega) (by omega) (Nat.le_trans hLr (unhide B6).size) ?_; intro qo7 co7 w7 o7 b7 s7; have T7 := hide ((unhide T6).appO s7 o7); have B7 := hide ((unhide B6).trans b7); clear o7 b7 s7))
          have hQ := (unhide T7).Q
          have hlf := hQ.2.2.1
          obtain ⟨df, hdf⟩ : ∃ df, l3.length + df = m := ⟨m - l3.length, by omega⟩
          have c21 := fun (V : World) (hV : Below w7.heap.size w7 V) => roomB L _ _ m df l3 V (hQ.below hV) hdf
          have c22 := fun (V : World) (hV : Below w7.heap.size w7 V) => lenB L _ _ m l3 V (hQ.below hV)
          have hdif : (NI : Int) - (NO : Int) = (l3.length : Int) := by
            have e1 := congrArg List.length (unhide HOUT3)
            rw [unhide HNIL, List.length_append] at e1
            have e2 := unhide HNOL
            omega
          have hsum : (l3.length : Int) + (df : Int) = (m : Int) := by omega
          have wl := wrap_nat l3.length (by omega)
          have hb1 : ((m : Int) != (m : Int)) = false := by simp
          have hb2 : ((l3.length : Int) != (l3.length : Int)) = false := by simp
          generalize l3.length = nl at c22 hdif hsum wl hb2
          clear hQ hlf hdf
          refine wp_region_quiet_below (by assumption) (by kernel_rfl) ?_
          repeat (go_big_quiet_step (first | (go_at_fn 22; refine Calls.regrown_of (c22 _ (below_regrown _ _ _))) | (go_at_fn 21; refine Calls.regrown_of (c21 _ (below_regrown _ _ _)))))
          refine wpQuiet_nil ?_
          intro _ hw'
          obtain ⟨⟨dq, osq⟩, hw''⟩ := hw'
          subst hw''
          clear c21 c22
          go_wp2
          go_roundw
          case rel => exact ⟨k + 1, _, _, l3, _, _, inL ++ h.l.take n, _, _, (outL ++ l2.take cN), NI, NO, by omega, by go_num, rfl, rfl, hide ⟨(unhide HNIL).symm, (unhide HNOL).symm⟩, hide ((unhide T7).below (below_regrown _ _ _)), hide ⟨unhide HOUT3, by rw [unhide HNIL]; exact hNI16⟩, hide ((unhide HB).trans ((unhide B7).trans ((below_regrown _ _ _).mono (Nat.le_trans hLr (unhide B7).size))))⟩
          case measure => simp [intOf]; omega
        · have nf : (n : Int) < (h.l.length : Int) := by omega
          have hl2m : l2.length = m := by have := unhide HL2N; have := unhide HHN; have := unhide HHD; omega
          have hroom := fun (W : World) (q' : Option Addr) (c' : Nat) (hQ : QIn encI 3 1 51 W L q' c' m l2) => roomQ L _ 51 W l2.length m 0 hQ.1 (by omega) hm1.2
          have HROOM := hide hroom
          clear hroom hl2m
          have kt1 : ¬ (k : Int) < (ts.length : Int) := by omega
          have HSRC := hide (show ∀ (W : World), Below L wr W → SrcK encI 1 W h.q h.c (h.l.take n) from fun W hW => (take_sl (by decide) ((((unhide H1).below ((unhide HBW).trans (hW.mono hwL))).at (unhide HH)) |> fun ⟨_, _, _, _, _, h6⟩ => h6) n (by omega)).src)
          go_wp2_with (first
            | (go_at_call 11; refine hput.mono ?_; rintro e w4 ⟨rfl, q4, c4, i4, m4⟩; have T4 := hide ((unhide HTr).mv i4 m4 hLr); have B4 := hide (m4.below (unhide HTr).hi hLr); have M4 := hide m4; clear i4 m4)
            | (go_at_call 21; refine (unhide HROOM w4 q4 c4 (unhide T4).Q).mono ?_; rintro e w4d ⟨rfl, hw4d⟩; have T4d := hide (show Tri L w4d L q4 c4 m l2 qi ci inL qo co outL from by rw [hw4d]; exact (unhide T4).below (Below.refl _ _).drew); have B4d := hide (show Below L wr w4d from by rw [hw4d]; exact (unhide B4).drew); have K4d := hide (show Kpt (fun i => ¬ Ft L q i) wr w4d from by rw [hw4d]; exact (unhide M4).1.trans (Kpt.of (Below.refl _ _).drew)); clear hw4d)
            | (at_builtin; refine wpList_appK rowI rfl (.tmp 55) (.tmp 58) rfl L qi ci inL h.q h.c (h.l.take n) ni n NI (unhide HN).1.symm (unhide HTL) (unhide HNI) rfl rfl (unhide T4d).I (unhide HSRC w4d (unhide B4d)) (by unfold maxLen; omega) (by omega) (Nat.le_trans hLr (unhide B4d).size) ?_; intro qi5 ci5 w5 o5 b5 s5; have T5 := hide ((unhide T4d).appI s5 o5); have B5 := hide ((unhide B4d).trans b5); clear o5 b5 s5))
          have hQ := (unhide T5).Q
          have hlf := hQ.2.2.1
          obtain ⟨df, hdf⟩ : ∃ df, l2.length + df = m := ⟨m - l2.length, by omega⟩
          have c21 := fun (V : World) (hV : Below w5.heap.size w5 V) => roomB L _ _ m df l2 V (hQ.below hV) hdf
          have c22 := fun (V : World) (hV : Below w5.heap.size w5 V) => lenB L _ _ m l2 V (hQ.below hV)
          have hdif : (NI : Int) - (no : Int) = (l2.length : Int) := by
            have e1 := congrArg List.length (unhide HIN2)
            rw [unhide HNIL, List.length_append] at e1
            have e2 := (unhide HN).2
            omega
          have hsum : (l2.length : Int) + (df : Int) = (m : Int) := by omega
          have wl := wrap_nat l2.length (by omega)
          have hb1 : ((m : Int) != (m : Int)) = false := by simp
          have hb2 : ((l2.length : Int) != (l2.length : Int)) = false := by simp
          generalize l2.length = nl at c22 hdif hsum wl hb2
          clear hQ hlf hdf
          refine wp_region_quiet_below (by assumption) (by kernel_rfl) ?_
          repeat (go_big_quiet_step (first | (go_at_fn 22; refine Calls.regrown_of (c22 _ (below_regrown _ _ _))) | (go_at_fn 21; refine Calls.regrown_of (c21 _ (below_regrown _ _ _)))))
          refine wpQuiet_nil ?_
          intro _ hw'
          obtain ⟨⟨dq, osq⟩, hw''⟩ := hw'
          subst hw''
          clear c21 c22
          go_wp2
          go_roundw
          case rel => exact ⟨k + 1, _, _, l2, _, _, inL ++ h.l.take n, _, _, outL, NI, no, by omega, by go_num, rfl, rfl, hide ⟨(unhide HNIL).symm, (unhide HN).2⟩, hide ((unhide T5).below (below_regrown _ _ _)), hide ⟨unhide HIN2, by rw [unhide HNIL]; exact hNI16⟩, hide ((unhide HB).trans ((unhide B5).trans ((below_regrown _ _ _).mono (Nat.le_trans hLr (unhide B5).size))))⟩
          case measure => simp [intOf]; omega
      · by_cases htk : k < ts.length
        · have nf : ¬ (n : Int) < (h.l.length : Int) := by omega
          obtain ⟨x, hx, _⟩ := get_at htk
          obtain ⟨bt, ot, hpt, hbtl, hxc⟩ := intAt ((unhide H2).below (unhide HBW)) hx
          have hwhole : w.heap.size ≤ wr.heap.size := (unhide HBW).size
          have hxcs : ∀ W, Below w.heap.size w W → W.cell? ⟨bt, ot + k, none⟩ = some (.int .i64 x) := fun W hW => by
            obtain ⟨bt', ot', hpt', _, hxc'⟩ := intAt ((unhide H2).below hW) hx
            rw [hpt] at hpt'
            injection hpt' with hpt'
            injection hpt' with e1 e2
            rw [e1, e2]
            exact hxc'
          obtain ⟨cN, hcN⟩ : ∃ cN, takeN x l2.length = cN := ⟨_, rfl⟩
          have hcle : cN ≤ l2.length := by rw [← hcN]; exact takeN_le _ _
          have htake := fun (W : World) (q' : Option Addr) (c' : Nat) (hQ : QIn encI 3 1 51 W L q' c' m l2) => takeI L q' c' m l2 x W hQ
          rw [hcN] at htake
          obtain ⟨l3, hl3⟩ : ∃ l3, l2.drop cN = l3 := ⟨_, rfl⟩
          rw [hl3] at htake
          have htl3 : (l2.take cN).length = cN := by rw [List.length_take]; omega
          have hl3n : l3.length = l2.length - cN := by rw [← hl3, List.length_drop]
          obtain ⟨NO, hNO⟩ : ∃ NO, no + cN = NO := ⟨_, rfl⟩
          have hout3 : inL ++ h.l.take n = (outL ++ l2.take cN) ++ l3 := by rw [unhide HIN2, List.append_assoc, ← hl3, List.take_append_drop]
          have hNOl : (outL ++ l2.take cN).length = NO := by rw [List.length_append, htl3, ← (unhide HN).2]; exact hNO
          have kt1 : (k : Int) < (ts.length : Int) := by omega
          subst hpt
          have hx0 := hxc
          have hNOb : NO ≤ NI := by have e1 := congrArg List.length hout3; rw [unhide HNIL, List.length_append, hNOl] at e1; omega
          have HX := hide hxcs
          have HTAKE := hide htake
          have HTL3 := hide htl3
          have HOUT3 := hide hout3
          have HNOL := hide hNOl
          have HNO := hide hNO
          have HL3N := hide hl3n
          have HHX := hide hx
          clear hxcs htake htl3 hout3 hNOl hNO hl3n hx hxc hx0 hl3 hcN
          have HSRC := hide (show ∀ (W : World), Below L wr W → SrcK encI 1 W h.q h.c (h.l.take n) from fun W hW => (take_sl (by decide) ((((unhide H1).below ((unhide HBW).trans (hW.mono hwL))).at (unhide HH)) |> fun ⟨_, _, _, _, _, h6⟩ => h6) n (by omega)).src)
          go_wp2_with (first
            | (go_at_call 11; refine hput.mono ?_; rintro e w4 ⟨rfl, q4, c4, i4, m4⟩; have T4 := hide ((unhide HTr).mv i4 m4 hLr); have B4 := hide (m4.below (unhide HTr).hi hLr); have M4 := hide m4; clear i4 m4)
            | (at_builtin; refine wpList_appK rowI rfl (.tmp 55) (.tmp 58) rfl L qi ci inL h.q h.c (h.l.take n) ni n NI (unhide HN).1.symm (unhide HTL) (unhide HNI) rfl rfl (unhide T4).I (unhide HSRC w4 (unhide B4)) (by unfold maxLen; omega) (by omega) (Nat.le_trans hLr (unhide B4).size) ?_; intro qi5 ci5 w5 o5 b5 s5; have T5 := hide ((unhide T4).appI s5 o5); have B5 := hide ((unhide B4).trans b5); have x5 := unhide HX w5 ((unhide HBW).trans ((unhide B5).mono hwL)); clear o5 b5 s5)
            | (go_at_call 13; refine (unhide HTAKE w5 _ _ (unhide T5).Q).mono ?_; rintro e w6 ⟨⟨q6, c6, rfl, o6⟩, i6, m6⟩; have T6 := hide ((unhide T5).mv i6 m6 (Nat.le_trans hLr (unhide B5).size)); have O6 := hide o6; have B6 := hide ((unhide B5).trans (m6.below (unhide T5).hi (Nat.le_trans hLr (unhide B5).size))); clear o6 i6 m6)
            | (at_builtin; refine wpList_appK rowI rfl (.tmp 64) (.tmp 70) rfl L qo co outL q6 c6 (l2.take cN) no cN NO (unhide HN).2.symm (unhide HTL3) (unhide HNO) rfl rfl (unhide T6).O (unhide O6).ls.src (by unfold maxLen; omega) (by omega) (Nat.le_trans hLr (unhide B6).size) ?_; intro qo7 co7 w7 o7 b7 s7; have T7 := hide ((unhide T6).appO s7 o7); have B7 := hide ((unhide B6).trans b7); clear o7 b7 s7))
          have hQ := (unhide T7).Q
          have hlf := hQ.2.2.1
          obtain ⟨df, hdf⟩ : ∃ df, l3.length + df = m := ⟨m - l3.length, by omega⟩
          have c21 := fun (V : World) (hV : Below w7.heap.size w7 V) => roomB L _ _ m df l3 V (hQ.below hV) hdf
          have c22 := fun (V : World) (hV : Below w7.heap.size w7 V) => lenB L _ _ m l3 V (hQ.below hV)
          have hdif : (NI : Int) - (NO : Int) = (l3.length : Int) := by
            have e1 := congrArg List.length (unhide HOUT3)
            rw [unhide HNIL, List.length_append] at e1
            have e2 := unhide HNOL
            omega
          have hsum : (l3.length : Int) + (df : Int) = (m : Int) := by omega
          have wl := wrap_nat l3.length (by omega)
          have hb1 : ((m : Int) != (m : Int)) = false := by simp
          have hb2 : ((l3.length : Int) != (l3.length : Int)) = false := by simp
          generalize l3.length = nl at c22 hdif hsum wl hb2
          clear hQ hlf hdf
          refine wp_region_quiet_below (by assumption) (by kernel_rfl) ?_
          repeat (go_big_quiet_step (first | (go_at_fn 22; refine Calls.regrown_of (c22 _ (below_regrown _ _ _))) | (go_at_fn 21; refine Calls.regrown_of (c21 _ (below_regrown _ _ _)))))
          refine wpQuiet_nil ?_
          intro _ hw'
          obtain ⟨⟨dq, osq⟩, hw''⟩ := hw'
          subst hw''
          clear c21 c22
          go_wp2
          go_roundw
          case rel => exact ⟨k + 1, _, _, l3, _, _, inL ++ h.l.take n, _, _, (outL ++ l2.take cN), NI, NO, by omega, by go_num, rfl, rfl, hide ⟨(unhide HNIL).symm, (unhide HNOL).symm⟩, hide ((unhide T7).below (below_regrown _ _ _)), hide ⟨unhide HOUT3, by rw [unhide HNIL]; exact hNI16⟩, hide ((unhide HB).trans ((unhide B7).trans ((below_regrown _ _ _).mono (Nat.le_trans hLr (unhide B7).size))))⟩
          case measure => simp [intOf]; omega
        · have nf : ¬ (n : Int) < (h.l.length : Int) := by omega
          have kt1 : ¬ (k : Int) < (ts.length : Int) := by omega
          have HSRC := hide (show ∀ (W : World), Below L wr W → SrcK encI 1 W h.q h.c (h.l.take n) from fun W hW => (take_sl (by decide) ((((unhide H1).below ((unhide HBW).trans (hW.mono hwL))).at (unhide HH)) |> fun ⟨_, _, _, _, _, h6⟩ => h6) n (by omega)).src)
          go_wp2_with (first
            | (go_at_call 11; refine hput.mono ?_; rintro e w4 ⟨rfl, q4, c4, i4, m4⟩; have T4 := hide ((unhide HTr).mv i4 m4 hLr); have B4 := hide (m4.below (unhide HTr).hi hLr); have M4 := hide m4; clear i4 m4)
            | (at_builtin; refine wpList_appK rowI rfl (.tmp 55) (.tmp 58) rfl L qi ci inL h.q h.c (h.l.take n) ni n NI (unhide HN).1.symm (unhide HTL) (unhide HNI) rfl rfl (unhide T4).I (unhide HSRC w4 (unhide B4)) (by unfold maxLen; omega) (by omega) (Nat.le_trans hLr (unhide B4).size) ?_; intro qi5 ci5 w5 o5 b5 s5; have T5 := hide ((unhide T4).appI s5 o5); have B5 := hide ((unhide B4).trans b5); clear o5 b5 s5))
          have hQ := (unhide T5).Q
          have hlf := hQ.2.2.1
          obtain ⟨df, hdf⟩ : ∃ df, l2.length + df = m := ⟨m - l2.length, by omega⟩
          have c21 := fun (V : World) (hV : Below w5.heap.size w5 V) => roomB L _ _ m df l2 V (hQ.below hV) hdf
          have c22 := fun (V : World) (hV : Below w5.heap.size w5 V) => lenB L _ _ m l2 V (hQ.below hV)
          have hdif : (NI : Int) - (no : Int) = (l2.length : Int) := by
            have e1 := congrArg List.length (unhide HIN2)
            rw [unhide HNIL, List.length_append] at e1
            have e2 := (unhide HN).2
            omega
          have hsum : (l2.length : Int) + (df : Int) = (m : Int) := by omega
          have wl := wrap_nat l2.length (by omega)
          have hb1 : ((m : Int) != (m : Int)) = false := by simp
          have hb2 : ((l2.length : Int) != (l2.length : Int)) = false := by simp
          generalize l2.length = nl at c22 hdif hsum wl hb2
          clear hQ hlf hdf
          refine wp_region_quiet_below (by assumption) (by kernel_rfl) ?_
          repeat (go_big_quiet_step (first | (go_at_fn 22; refine Calls.regrown_of (c22 _ (below_regrown _ _ _))) | (go_at_fn 21; refine Calls.regrown_of (c21 _ (below_regrown _ _ _)))))
          refine wpQuiet_nil ?_
          intro _ hw'
          obtain ⟨⟨dq, osq⟩, hw''⟩ := hw'
          subst hw''
          clear c21 c22
          go_wp2
          go_roundw
          case rel => exact ⟨k + 1, _, _, l2, _, _, inL ++ h.l.take n, _, _, outL, NI, no, by omega, by go_num, rfl, rfl, hide ⟨(unhide HNIL).symm, (unhide HN).2⟩, hide ((unhide T5).below (below_regrown _ _ _)), hide ⟨unhide HIN2, by rw [unhide HNIL]; exact hNI16⟩, hide ((unhide HB).trans ((unhide B5).trans ((below_regrown _ _ _).mono (Nat.le_trans hLr (unhide B5).size))))⟩
          case measure => simp [intOf]; omega
    · obtain rfl : k = hs.length := by omega
      have ki1 : ¬ (hs.length : Int) < (hs.length : Int) := by omega
      obtain ⟨hni, hno⟩ := unhide HN
      obtain ⟨hio, hi16⟩ := unhide HI
      have hlm := (unhide HTr).Q.2.2.1
      have htake := takeI L q cap m l (m : Int) wr (unhide HTr).Q
      rw [show takeN (m : Int) l.length = l.length by unfold takeN; omega, List.take_length, List.drop_length] at htake
      obtain ⟨nl, hnl⟩ : ∃ nl, l.length = nl := ⟨_, rfl⟩
      rw [hnl] at htake
      obtain ⟨NO, hNO⟩ : ∃ NO, no + nl = NO := ⟨_, rfl⟩
      have hNOl : (outL ++ l).length = NO := by rw [List.length_append, ← hno, hnl]; exact hNO
      have hNN : NO = ni := by rw [← hNOl, hni, ← hio]
      have hsame := fun (W : World) (a : Option Addr) (ca : Nat) (b : Option Addr) (cb : Nat) (ha : SlOf encI 1 W a ca inL) (hb : SlOf encI 1 W b cb (outL ++ l)) => memEqI a ca inL b cb (outL ++ l) W ha hb (by omega)
      rw [← hni, hNOl, decide_eq_true hio] at hsame
      have hni16 : ni ≤ 16 * hs.length := by omega
      have HSAME := hide hsame
      have HNL := hide hnl
      have HNO := hide hNO
      have HNOL := hide hNOl
      have HBW := hide hbw
      have HN1 := hide hno
      have HNN := hide hNN
      clear hsame hnl hNO hNOl hbw hno hni hio hi16 hNN
      go_wp2_with (first
        | (go_at_call 13; refine htake.mono ?_; rintro e w6 ⟨⟨q6, c6, rfl, o6⟩, i6, m6⟩; have T6 := hide ((unhide HTr).mv i6 m6 hLr); have O6 := hide o6; have B6 := hide (m6.below (unhide HTr).hi hLr); clear o6 i6 m6)
        | (at_builtin; refine wpList_appK rowI rfl (.tmp 96) (.tmp 99) rfl L qo co outL q6 c6 l no nl NO (unhide HN1).symm (unhide HNL) (unhide HNO) rfl rfl (unhide T6).O (unhide O6).ls.src (by have := unhide HNN; unfold maxLen; omega) (by have := unhide HNN; omega) (Nat.le_trans hLr (unhide B6).size) ?_; intro qo7 co7 w7 o7 b7 s7; have T7 := hide ((unhide T6).appO s7 o7); have B7 := hide ((unhide B6).trans b7); clear o7 b7 s7)
        | (go_at_call 14; refine (unhide HSAME w7 _ _ _ _ (unhide T7).I.ls (unhide T7).O.ls).mono ?_; rintro e w8 ⟨rfl, b8⟩; have T8 := hide ((unhide T7).below b8); have B8 := hide b8; clear b8)
        | (go_at_call 22; refine (fx_len0 _ _ _ _ _ (unhide T8).Q).mono ?_; rintro e w9 ⟨rfl, hw9⟩; obtain rfl := hw9.symm))
      go_ret
      exact ⟨rfl, (unhide HBW).trans (((unhide B7).trans ((unhide B8).mono (Nat.le_trans hLr (unhide B7).size))).mono hwL)⟩
end Go.Proofs.Ytfenkiplofnolaa
