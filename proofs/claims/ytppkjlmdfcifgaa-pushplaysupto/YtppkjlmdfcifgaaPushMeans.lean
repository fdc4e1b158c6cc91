/- The law PushMeans returns true, whatever tree of bounded weight and event it is given. -/
import Derived.Test.YtppkjlmdfcifgaaPushFixed
import Derived.Test.YtppkjlmdfcifgaaPushPlain
import Derived.Test.YtppkjlmdfcifgaaRefCheck
import Derived.Test.YtppkjlmdfcifgaaSameNode
import Derived.Lib.QuietBelow
import Derived.BigQuiet
import Derived.Shelf.Abstract
namespace Go.Proofs.Ytppkjlmdfcifgaa
open Go.RowKit Go.Sort

theorem push_ok (x : Nd) (v : Nv) (w : World) (hin : NdIn w v x) (hc : chkN x = true) (hwt : wtN x ≤ 1000000000) :
    Calls Try.prog 36 #[.agg #[.int .i64 v.kind, .string v.attr, .slice v.qi v.ni v.ci, .slice v.qw v.nw v.cw, .int .i64 v.lo, .int .i64 v.hi, .int .i64 v.op, .slice v.qk v.nk v.ck]] w fun e w' => (∃ v', e = .returned (.tuple #[v'.val, .int .i64 0]) ∧ NdFrom w' w.heap.size v' (downN x false)) ∧ Below w.heap.size w w' := by
  have := push_any x v w hin hwt
  rw [hc, show code true = 0 from rfl] at this
  simp only [PushT, hc, if_true] at this
  exact this
theorem sameTT {t : Nd} (va vb : Nv) (w : World) (ha : NdIn w va t) (hb : NdIn w vb t) (ok : wtN t ≤ 1000000000) : Calls Try.prog 40 #[.agg #[.int .i64 va.kind, .string va.attr, .slice va.qi va.ni va.ci, .slice va.qw va.nw va.cw, .int .i64 va.lo, .int .i64 va.hi, .int .i64 va.op, .slice va.qk va.nk va.ck], .agg #[.int .i64 vb.kind, .string vb.attr, .slice vb.qi vb.ni vb.ci, .slice vb.qw vb.nw vb.cw, .int .i64 vb.lo, .int .i64 vb.hi, .int .i64 vb.op, .slice vb.qk vb.nk vb.ck]] w fun e w' => e = .returned (.bool true) ∧ Below w.heap.size w w' := by
  have := sameM_all t t va vb w ha hb (OkN.of_wt t ok)
  rwa [sameT_yes rfl] at this
theorem chk_not (x : Nd) : chkN (notT x) = chkN x := by
  have h : nodeB 0 ⟨#[]⟩ [] [] 0 0 2 1 = true := by decide +kernel
  simp [notT, chkN, chkL, h]
theorem wt_not (x : Nd) : wtN (notT x) = wtN x + 1 := by
  have e : (⟨#[]⟩ : ByteArray).size = 0 := rfl
  simp only [notT, wtN, wtL, wordsWt, List.length_nil, e]; omega
theorem zero_in (w : World) : NdIn w ⟨0, ⟨#[]⟩, none, 0, 0, none, 0, 0, 0, 0, 0, none, 0, 0⟩ zeroT :=
  NdIn.make (ints := []) (words := []) (kids := []) (SlOf.none _) (SlOf.none _) ⟨[], SlOf.none _, rfl, fun j v x h => by simp at h⟩
theorem one_nw {w Y : World} {o : Obj} (h : Y = w.alloc o) : Y.heap[w.heap.size]? = some o ∧ Below w.heap.size w Y ∧ Y.heap.size = w.heap.size + 1 := by
  subst h
  exact ⟨box_nw _ _, (Below.refl _ _).alloc (Nat.le_refl _) _, by simp⟩
set_option maxRecDepth 100000 in
set_option maxHeartbeats 8000000 in
theorem pushMeans_no (x : Nd) (v : Nv) (qe : Option Addr) (ce : Nat) (ev : List Pr) (w : World) (hin : NdIn w v x) (hc : chkN x = false) (hwt : wtN x ≤ 100000000) :
    Calls Try.prog 7 #[.agg #[.int .i64 v.kind, .string v.attr, .slice v.qi v.ni v.ci, .slice v.qw v.nw v.cw, .int .i64 v.lo, .int .i64 v.hi, .int .i64 v.op, .slice v.qk v.nk v.ck], .slice qe ev.length ce] w fun e w' => e = .returned (.bool true) ∧ Below w.heap.size w w' := by
  obtain ⟨X, HX⟩ : ∃ X, w.alloc (.cells #[.int .i64 v.kind, .string v.attr, .slice v.qi v.ni v.ci, .slice v.qw v.nw v.cw, .int .i64 v.lo, .int .i64 v.hi, .int .i64 v.op, .slice v.qk v.nk v.ck] 31) = X := ⟨_, rfl⟩
  have hX0 : X.heap[w.heap.size]? = some (.cells #[.int .i64 v.kind, .string v.attr, .slice v.qi v.ni v.ci, .slice v.qw v.nw v.cw, .int .i64 v.lo, .int .i64 v.hi, .int .i64 v.op, .slice v.qk v.nk v.ck] 31 (0, 0)) := by rw [← HX]; exact box_nw _ _
  have hwX : Below w.heap.size w X := by rw [← HX]; exact (Below.refl _ _).alloc (Nat.le_refl _) _
  have hz0 := heap_lt hX0
  have hfx := fixed7_any X
  have hP := fun (W : World) (hW : Below X.heap.size X W) => push_any x v W ((hin.keep hwX).keep hW) (by omega)
  rw [hc, show code false = 1 from rfl] at hP
  simp only [PushT, hc, Bool.false_eq_true, if_false] at hP
  have hR := fun (W : World) (hW : Below X.heap.size X W) => rchk_any x v W ((hin.keep hwX).keep hW) (by omega)
  rw [hc] at hR
  have hS := fun (u : Nv) (W : World) (hW : NdIn W u zeroT) => sameTT u ⟨0, ⟨#[]⟩, none, 0, 0, none, 0, 0, 0, 0, 0, none, 0, 0⟩ W hW (zero_in W) (Nat.le_trans (show wtN zeroT ≤ 1000 by decide +kernel) (by omega))
  simp only [Nv.val] at hP hR hS
  have HX0 := hide hX0
  have HWX := hide hwX
  clear hin hX0 hwX hc
  go_enter Try.func7, Try.ntmps7
  go_wp2_with (first
    | (go_at_call 35; refine hfx.mono ?_; rintro e w1 ⟨rfl, b1⟩; obtain ⟨s0, s1, s2, s3, s4, s5, s6, s7⟩ := of8' ((b1.block _ hz0).trans (unhide HX0)); have B1 := hide b1; clear b1)
    | (go_at_call 36; refine (hP _ (unhide B1)).mono ?_; rintro e w2 ⟨⟨um, rfl, hu⟩, b2⟩; simp only; have B2 := hide (below_sub (unhide B1) b2); clear s0 s1 s2 s3 s4 s5 s6 s7; obtain ⟨s0, s1, s2, s3, s4, s5, s6, s7⟩ := of8' (((unhide B2).block _ hz0).trans (unhide HX0)); have zl : w.heap.size < w2.heap.size := (Nat.lt_of_lt_of_le hz0 (unhide B2).size); have HU := hide hu.toIn; clear hu b2)
    | (go_at_call 31; refine name_worldM ?_; intro Y hY; obtain ⟨yu, bY, sY⟩ := one_nw hY; clear hY; refine (hR _ (below_sub (unhide B2) bY)).mono ?_; rintro e w3 ⟨rfl, b3⟩; obtain ⟨m0, m1, m2, m3, m4, m5, m6, m7⟩ := of8' ((b3.block _ (heap_lt yu)).trans yu); have B3 := hide (below_sub (below_sub (unhide B2) bY) b3); have HU3 := hide (((unhide HU).keep bY).keep b3); clear yu b3 bY)
    | (go_at_call 40; refine (hS um _ (unhide HU3)).mono ?_; rintro e w4 ⟨rfl, b4⟩; have B4 := hide (below_sub (unhide B3) b4); clear b4))
  go_ret
  exact ⟨ret_bool (by simp), below_sub (unhide HWX) (unhide B4)⟩
set_option maxRecDepth 100000 in
set_option maxHeartbeats 16000000 in
theorem pushMeans_yes (x : Nd) (v : Nv) (qe : Option Addr) (ce : Nat) (ev : List Pr) (w : World) (hin : NdIn w v x) (he : SlOf encP 4 w qe ce ev) (hc : chkN x = true) (hwt : wtN x ≤ 100000000) (l3 : ev.length ≤ 100000000000000) :
    Calls Try.prog 7 #[.agg #[.int .i64 v.kind, .string v.attr, .slice v.qi v.ni v.ci, .slice v.qw v.nw v.cw, .int .i64 v.lo, .int .i64 v.hi, .int .i64 v.op, .slice v.qk v.nk v.ck], .slice qe ev.length ce] w fun e w' => e = .returned (.bool true) ∧ Below w.heap.size w w' := by
  obtain ⟨X, HX⟩ : ∃ X, w.alloc (.cells #[.int .i64 v.kind, .string v.attr, .slice v.qi v.ni v.ci, .slice v.qw v.nw v.cw, .int .i64 v.lo, .int .i64 v.hi, .int .i64 v.op, .slice v.qk v.nk v.ck] 31) = X := ⟨_, rfl⟩
  have hX0 : X.heap[w.heap.size]? = some (.cells #[.int .i64 v.kind, .string v.attr, .slice v.qi v.ni v.ci, .slice v.qw v.nw v.cw, .int .i64 v.lo, .int .i64 v.hi, .int .i64 v.op, .slice v.qk v.nk v.ck] 31 (0, 0)) := by rw [← HX]; exact box_nw _ _
  have hwX : Below w.heap.size w X := by rw [← HX]; exact (Below.refl _ _).alloc (Nat.le_refl _) _
  have hz0 := heap_lt hX0
  have hfx := fixed7_any X
  obtain ⟨D, hD⟩ : ∃ D, downN x false = D := ⟨_, rfl⟩
  obtain ⟨D', hD'⟩ : ∃ D', downN x true = D' := ⟨_, rfl⟩
  have wD : wtN D ≤ 200000000 := by have := wt_down x false hc; rw [hD] at this; omega
  have wD' : wtN D' ≤ 200000000 := by have := wt_down x true hc; rw [hD'] at this; omega
  have cD : chkN D = true := by rw [← hD]; exact chk_down x false hc
  have cD' : chkN D' = true := by rw [← hD']; exact chk_down x true hc
  have aD : (chkN D && atN D) = true := by rw [cD, ← hD, at_down x false hc]; rfl
  have aD' : (chkN D' && atN D') = true := by rw [cD', ← hD', at_down x true hc]; rfl
  have hP1 := fun (W : World) (hW : NdIn W v x) => push_ok x v W hW hc (by omega)
  have hP2 := fun (u : Nv) (W : World) (hW : NdIn W u D) => push_ok D u W hW cD (by omega)
  have hP3 := fun (u : Nv) (W : World) (hW : NdIn W u (notT (notT x))) => push_ok (notT (notT x)) u W hW (by rw [chk_not, chk_not]; exact hc) (by rw [wt_not, wt_not]; omega)
  have hP4 := fun (u : Nv) (W : World) (hW : NdIn W u (notT x)) => push_ok (notT x) u W hW (by rw [chk_not]; exact hc) (by rw [wt_not]; omega)
  have hag : downN D false = D := by rw [← hD]; exact down_again x false hc
  rw [hD] at hP1
  rw [hag] at hP2
  rw [down_twice, hD] at hP3
  rw [down_notT, hD'] at hP4
  have hN1 := fun (u : Nv) (y : Nd) (W : World) (hW : NdIn W u y) (hy : wtN y ≤ 200000000) => not_any y u W hW (by omega)
  have hA := fun (u : Nv) (y : Nd) (W : World) (hW : NdIn W u y) (hy : (chkN y && atN y) = true) (hw : wtN y ≤ 200000000) => pushed_any y u W hW (by omega)
  simp only [Nv.val] at hN1 hA
  obtain ⟨E, hE⟩ : ∃ E, truN ev x = E := ⟨_, rfl⟩
  have vx : evalN ev x = E := by unfold evalN; rw [hc, hE]; rfl
  have vD : evalN ev D = E := by unfold evalN; rw [cD, ← hD, tru_down ev x false hc, hE]; cases E <;> rfl
  have vD' : evalN ev D' = !E := by unfold evalN; rw [cD', ← hD', tru_down ev x true hc, hE]; cases E <;> rfl
  have HIN := hide (hin.keep hwX)
  have HE := hide (he.below hwX)
  have HX0 := hide hX0
  have HWX := hide hwX
  have HwD := hide (show wtN D ≤ 1000000000 by omega)
  have HwD' := hide (show wtN D' ≤ 1000000000 by omega)
  have HV := hide (And.intro vx (And.intro vD vD'))
  have Hx := hide hwt
  have HDD := hide (And.intro aD (And.intro aD' (And.intro wD wD')))
  clear hin hX0 hwX hc hD hD' cD cD' aD aD' hag hE vx vD vD' he wD wD'
  have mixed : Try.prog.follows .mixedOrders = true := by kernel_rfl
  have en40 : ∀ args w, (callFunc 40 args).run Try.prog w = .ok (.enter 40 args) w := enters_of Try.func40 (by kernel_rfl) rfl
  have en21 : ∀ args w, (callFunc 21 args).run Try.prog w = .ok (.enter 21 args) w := enters_of Try.func21 (by kernel_rfl) rfl
  go_enter Try.func7, Try.ntmps7
  go_wp2_with (first
    | (go_at_call 35; refine hfx.mono ?_; rintro e w1 ⟨rfl, b1⟩; obtain ⟨s0, s1, s2, s3, s4, s5, s6, s7⟩ := of8' ((b1.block _ hz0).trans (unhide HX0)); have B1 := hide b1; clear b1)
    | (go_at_call 41; have tst := unhide B9; clear tst; refine (hA un D' _ (unhide NN9) (unhide HDD).2.1 (unhide HDD).2.2.2).mono ?_; rw [(unhide HDD).2.1]; rintro e w10 ⟨rfl, b10⟩; have R10 := hide b10; clear b10)
    | (go_at_call 41; have tst := unhide K8; clear tst; refine name_worldM ?_; intro Y8 hY8; obtain ⟨yn, bY8, sY8⟩ := one_nw hY8; clear hY8; refine (hA um D _ (((unhide NM8).keep bY8)) (unhide HDD).1 (unhide HDD).2.2.1).mono ?_; rw [(unhide HDD).1]; rintro e w9 ⟨rfl, b9⟩; have NN9 := hide (((unhide NU8).keep bY8).keep b9); have B9 := hide (below_sub bY8 b9); have HN9 := hide ((b9.block _ (heap_lt yn)).trans yn); obtain ⟨u0, u1, u2, u3, u4, u5, u6, u7⟩ := of8' (unhide HN9); clear yn bY8 b9)
    | (go_at_call 36; have tst := unhide N7; clear tst; refine (hP4 _ _ (unhide N7)).mono ?_; rintro e w8 ⟨⟨un, rfl, hu⟩, b8⟩; simp only [Nv.val]; have B8 := hide (below_sub (unhide B7) b8); have K8 := hide b8; have NU8 := hide hu.toIn; have NM8 := hide ((unhide NM7).keep b8); have HM8 := hide ((b8.block _ (heap_lt (unhide HM7))).trans (unhide HM7)); have HA8 := hide ((b8.block _ (heap_lt (unhide HA7))).trans (unhide HA7)); have HT8 := hide ((b8.block _ (heap_lt (unhide HT7))).trans (unhide HT7)); clear s0 s1 s2 s3 s4 s5 s6 s7; obtain ⟨m0, m1, m2, m3, m4, m5, m6, m7⟩ := of8' (unhide HM8); have ml := heap_lt (unhide HM8); clear hu b8)
    | (go_at_call 34; have tst := unhide K6; clear tst; refine name_worldM ?_; intro Y6 hY6; obtain ⟨yt, bY6, sY6⟩ := one_nw hY6; clear hY6; refine (hN1 v x _ ((unhide HIN).keep (below_sub (unhide B6) bY6)) (by have := unhide Hx; omega)).mono ?_; rintro e w7 ⟨⟨v7, rfl, hu⟩, b7⟩; simp only [Nv.val]; have bb := below_sub bY6 b7; have B7 := hide (below_sub (unhide B6) bb); have N7 := hide hu.toIn; have NM7 := hide ((unhide NM6).keep bb); have HM7 := hide ((bb.block _ (heap_lt (unhide HM6))).trans (unhide HM6)); have HA7 := hide ((bb.block _ (heap_lt (unhide HA6))).trans (unhide HA6)); have HT7 := hide ((b7.block _ (heap_lt yt)).trans yt); have NT7 := hide ((unhide NT6).keep bb); have NA7 := hide ((unhide NA6).keep bb); clear hu b7 bb yt bY6)
    | (go_at_call 36; have tst := unhide N5; clear tst; refine (hP3 _ _ (unhide N5)).mono ?_; rintro e w6 ⟨⟨ut, rfl, hu⟩, b6⟩; simp only [Nv.val]; have B6 := hide (below_sub (unhide B5) b6); have K6 := hide b6; have NT6 := hide hu.toIn; have NM6 := hide ((unhide NM5).keep b6); have NA6 := hide ((unhide NA5).keep b6); have HM6 := hide ((b6.block _ (heap_lt (unhide HM5))).trans (unhide HM5)); have HA6 := hide ((b6.block _ (heap_lt (unhide HA5))).trans (unhide HA5)); clear s0 s1 s2 s3 s4 s5 s6 s7; obtain ⟨s0, s1, s2, s3, s4, s5, s6, s7⟩ := of8' (((unhide B6).block _ hz0).trans (unhide HX0)); have zl6 : w.heap.size < w6.heap.size := (Nat.lt_of_lt_of_le hz0 (unhide B6).size); clear hu b6)
    | (go_at_call 34; have tst := unhide N4; clear tst; refine (hN1 _ (notT x) _ (unhide N4) (by rw [wt_not]; have := unhide Hx; omega)).mono ?_; rintro e w5 ⟨⟨v5, rfl, hu⟩, b5⟩; simp only [Nv.val]; have B5 := hide (below_sub (unhide B4) b5); have N5 := hide hu.toIn; have NM5 := hide ((unhide NM4).keep b5); have NA5 := hide ((unhide NA4).keep b5); have HM5 := hide ((b5.block _ (heap_lt (unhide HM4))).trans (unhide HM4)); have HA5 := hide ((b5.block _ (heap_lt (unhide HA4))).trans (unhide HA4)); clear hu b5)
    | (go_at_call 34; have tst := unhide K3; clear tst; refine name_worldM ?_; intro Y3 hY3; obtain ⟨ya, bY3, sY3⟩ := one_nw hY3; clear hY3; refine (hN1 v x _ ((unhide HIN).keep (below_sub (unhide B3) bY3)) (by have := unhide Hx; omega)).mono ?_; rintro e w4 ⟨⟨v4, rfl, hu⟩, b4⟩; simp only [Nv.val]; have bb := below_sub bY3 b4; have B4 := hide (below_sub (unhide B3) bb); have N4 := hide hu.toIn; have NM4 := hide ((unhide NM3).keep bb); have NA4 := hide ((unhide NA3).keep bb); have HM4 := hide ((bb.block _ (heap_lt (unhide HM3))).trans (unhide HM3)); have HA4 := hide ((b4.block _ (heap_lt ya)).trans ya); clear hu b4 bb ya bY3)
    | (go_at_call 36; have tst := unhide K2; clear tst; refine name_worldM ?_; intro Y2 hY2; obtain ⟨ym, bY2, sY2⟩ := one_nw hY2; clear hY2; refine (hP2 um _ ((unhide NM2).keep bY2)).mono ?_; rintro e w3 ⟨⟨ua, rfl, hu⟩, b3⟩; simp only [Nv.val]; have bb := below_sub bY2 b3; have B3 := hide (below_sub (unhide B2) bb); have K3 := hide b3; have NA3 := hide hu.toIn; have NM3 := hide ((unhide NM2).keep bb); have HM3 := hide ((b3.block _ (heap_lt ym)).trans ym); clear s0 s1 s2 s3 s4 s5 s6 s7; obtain ⟨s0, s1, s2, s3, s4, s5, s6, s7⟩ := of8' (((unhide B3).block _ hz0).trans (unhide HX0)); have zl3 : w.heap.size < w3.heap.size := (Nat.lt_of_lt_of_le hz0 (unhide B3).size); clear hu b3 bb ym bY2)
    | (go_at_call 36; refine (hP1 _ ((unhide HIN).keep (unhide B1))).mono ?_; rintro e w2 ⟨⟨um, rfl, hu⟩, b2⟩; simp only [Nv.val]; have B2 := hide (below_sub (unhide B1) b2); have K2 := hide b2; have NM2 := hide hu.toIn; clear hu b2))
  have b810 := below_sub (unhide B9) (unhide R10)
  have bX10 := below_sub (unhide B8) b810
  obtain ⟨nc0, nc1, nc2, nc3, nc4, nc5, nc6, nc7⟩ := of8' ((bX10.block _ hz0).trans (unhide HX0))
  have n0 : ∀ n os, (grow (redrawn w10 n) os).cell? ⟨w.heap.size, 0, none⟩ = some (.int .i64 v.kind) := cell_regrown nc0
  have n1 : ∀ n os, (grow (redrawn w10 n) os).cell? ⟨w.heap.size, 1, none⟩ = some (.string v.attr) := cell_regrown nc1
  have n2 : ∀ n os, (grow (redrawn w10 n) os).cell? ⟨w.heap.size, 2, none⟩ = some (.slice v.qi v.ni v.ci) := cell_regrown nc2
  have n3 : ∀ n os, (grow (redrawn w10 n) os).cell? ⟨w.heap.size, 3, none⟩ = some (.slice v.qw v.nw v.cw) := cell_regrown nc3
  have n4 : ∀ n os, (grow (redrawn w10 n) os).cell? ⟨w.heap.size, 4, none⟩ = some (.int .i64 v.lo) := cell_regrown nc4
  have n5 : ∀ n os, (grow (redrawn w10 n) os).cell? ⟨w.heap.size, 5, none⟩ = some (.int .i64 v.hi) := cell_regrown nc5
  have n6 : ∀ n os, (grow (redrawn w10 n) os).cell? ⟨w.heap.size, 6, none⟩ = some (.int .i64 v.op) := cell_regrown nc6
  have n7 : ∀ n os, (grow (redrawn w10 n) os).cell? ⟨w.heap.size, 7, none⟩ = some (.slice v.qk v.nk v.ck) := cell_regrown nc7
  clear nc0 nc1 nc2 nc3 nc4 nc5 nc6 nc7
  obtain ⟨pc0, pc1, pc2, pc3, pc4, pc5, pc6, pc7⟩ := of8' ((b810.block _ (heap_lt (unhide HM8))).trans (unhide HM8))
  have p0 : ∀ n os, (grow (redrawn w10 n) os).cell? ⟨w2.heap.size, 0, none⟩ = some (.int .i64 um.kind) := cell_regrown pc0
  have p1 : ∀ n os, (grow (redrawn w10 n) os).cell? ⟨w2.heap.size, 1, none⟩ = some (.string um.attr) := cell_regrown pc1
  have p2 : ∀ n os, (grow (redrawn w10 n) os).cell? ⟨w2.heap.size, 2, none⟩ = some (.slice um.qi um.ni um.ci) := cell_regrown pc2
  have p3 : ∀ n os, (grow (redrawn w10 n) os).cell? ⟨w2.heap.size, 3, none⟩ = some (.slice um.qw um.nw um.cw) := cell_regrown pc3
  have p4 : ∀ n os, (grow (redrawn w10 n) os).cell? ⟨w2.heap.size, 4, none⟩ = some (.int .i64 um.lo) := cell_regrown pc4
  have p5 : ∀ n os, (grow (redrawn w10 n) os).cell? ⟨w2.heap.size, 5, none⟩ = some (.int .i64 um.hi) := cell_regrown pc5
  have p6 : ∀ n os, (grow (redrawn w10 n) os).cell? ⟨w2.heap.size, 6, none⟩ = some (.int .i64 um.op) := cell_regrown pc6
  have p7 : ∀ n os, (grow (redrawn w10 n) os).cell? ⟨w2.heap.size, 7, none⟩ = some (.slice um.qk um.nk um.ck) := cell_regrown pc7
  clear pc0 pc1 pc2 pc3 pc4 pc5 pc6 pc7
  obtain ⟨rc0, rc1, rc2, rc3, rc4, rc5, rc6, rc7⟩ := of8' ((b810.block _ (heap_lt (unhide HA8))).trans (unhide HA8))
  have r0 : ∀ n os, (grow (redrawn w10 n) os).cell? ⟨w3.heap.size, 0, none⟩ = some (.int .i64 ua.kind) := cell_regrown rc0
  have r1 : ∀ n os, (grow (redrawn w10 n) os).cell? ⟨w3.heap.size, 1, none⟩ = some (.string ua.attr) := cell_regrown rc1
  have r2 : ∀ n os, (grow (redrawn w10 n) os).cell? ⟨w3.heap.size, 2, none⟩ = some (.slice ua.qi ua.ni ua.ci) := cell_regrown rc2
  have r3 : ∀ n os, (grow (redrawn w10 n) os).cell? ⟨w3.heap.size, 3, none⟩ = some (.slice ua.qw ua.nw ua.cw) := cell_regrown rc3
  have r4 : ∀ n os, (grow (redrawn w10 n) os).cell? ⟨w3.heap.size, 4, none⟩ = some (.int .i64 ua.lo) := cell_regrown rc4
  have r5 : ∀ n os, (grow (redrawn w10 n) os).cell? ⟨w3.heap.size, 5, none⟩ = some (.int .i64 ua.hi) := cell_regrown rc5
  have r6 : ∀ n os, (grow (redrawn w10 n) os).cell? ⟨w3.heap.size, 6, none⟩ = some (.int .i64 ua.op) := cell_regrown rc6
  have r7 : ∀ n os, (grow (redrawn w10 n) os).cell? ⟨w3.heap.size, 7, none⟩ = some (.slice ua.qk ua.nk ua.ck) := cell_regrown rc7
  clear rc0 rc1 rc2 rc3 rc4 rc5 rc6 rc7
  obtain ⟨tc0, tc1, tc2, tc3, tc4, tc5, tc6, tc7⟩ := of8' ((b810.block _ (heap_lt (unhide HT8))).trans (unhide HT8))
  have t0 : ∀ n os, (grow (redrawn w10 n) os).cell? ⟨w6.heap.size, 0, none⟩ = some (.int .i64 ut.kind) := cell_regrown tc0
  have t1 : ∀ n os, (grow (redrawn w10 n) os).cell? ⟨w6.heap.size, 1, none⟩ = some (.string ut.attr) := cell_regrown tc1
  have t2 : ∀ n os, (grow (redrawn w10 n) os).cell? ⟨w6.heap.size, 2, none⟩ = some (.slice ut.qi ut.ni ut.ci) := cell_regrown tc2
  have t3 : ∀ n os, (grow (redrawn w10 n) os).cell? ⟨w6.heap.size, 3, none⟩ = some (.slice ut.qw ut.nw ut.cw) := cell_regrown tc3
  have t4 : ∀ n os, (grow (redrawn w10 n) os).cell? ⟨w6.heap.size, 4, none⟩ = some (.int .i64 ut.lo) := cell_regrown tc4
  have t5 : ∀ n os, (grow (redrawn w10 n) os).cell? ⟨w6.heap.size, 5, none⟩ = some (.int .i64 ut.hi) := cell_regrown tc5
  have t6 : ∀ n os, (grow (redrawn w10 n) os).cell? ⟨w6.heap.size, 6, none⟩ = some (.int .i64 ut.op) := cell_regrown tc6
  have t7 : ∀ n os, (grow (redrawn w10 n) os).cell? ⟨w6.heap.size, 7, none⟩ = some (.slice ut.qk ut.nk ut.ck) := cell_regrown tc7
  clear tc0 tc1 tc2 tc3 tc4 tc5 tc6 tc7
  obtain ⟨zc0, zc1, zc2, zc3, zc4, zc5, zc6, zc7⟩ := of8' (((unhide R10).block _ (heap_lt (unhide HN9))).trans (unhide HN9))
  have z0 : ∀ n os, (grow (redrawn w10 n) os).cell? ⟨w8.heap.size, 0, none⟩ = some (.int .i64 un.kind) := cell_regrown zc0
  have z1 : ∀ n os, (grow (redrawn w10 n) os).cell? ⟨w8.heap.size, 1, none⟩ = some (.string un.attr) := cell_regrown zc1
  have z2 : ∀ n os, (grow (redrawn w10 n) os).cell? ⟨w8.heap.size, 2, none⟩ = some (.slice un.qi un.ni un.ci) := cell_regrown zc2
  have z3 : ∀ n os, (grow (redrawn w10 n) os).cell? ⟨w8.heap.size, 3, none⟩ = some (.slice un.qw un.nw un.cw) := cell_regrown zc3
  have z4 : ∀ n os, (grow (redrawn w10 n) os).cell? ⟨w8.heap.size, 4, none⟩ = some (.int .i64 un.lo) := cell_regrown zc4
  have z5 : ∀ n os, (grow (redrawn w10 n) os).cell? ⟨w8.heap.size, 5, none⟩ = some (.int .i64 un.hi) := cell_regrown zc5
  have z6 : ∀ n os, (grow (redrawn w10 n) os).cell? ⟨w8.heap.size, 6, none⟩ = some (.int .i64 un.op) := cell_regrown zc6
  have z7 : ∀ n os, (grow (redrawn w10 n) os).cell? ⟨w8.heap.size, 7, none⟩ = some (.slice un.qk un.nk un.ck) := cell_regrown zc7
  clear zc0 zc1 zc2 zc3 zc4 zc5 zc6 zc7
  have NM10 := hide ((unhide NM8).keep b810)
  have NA10 := hide (((unhide NA7).keep (unhide K8)).keep b810)
  have NT10 := hide (((unhide NT7).keep (unhide K8)).keep b810)
  have NN10 := hide ((unhide NN9).keep (unhide R10))
  have NX10 := hide ((unhide HIN).keep bX10)
  have HE10 := hide ((unhide HE).below bX10)
  have q40 := fun (a : Nv) (ha : NdIn w10 a D) (n : Nat) (os : Array Obj) => sameTT a um (grow (redrawn w10 n) os) (ha.keep (below_regrown w10 n os)) ((unhide NM10).keep (below_regrown w10 n os)) (unhide HwD)
  have qm := fun (n : Nat) (os : Array Obj) => eval_any D um qe ce ev (grow (redrawn w10 n) os) ((unhide NM10).keep (below_regrown w10 n os)) ((unhide HE10).below (below_regrown w10 n os)) (unhide HwD) l3
  have qx := fun (n : Nat) (os : Array Obj) => eval_any x v qe ce ev (grow (redrawn w10 n) os) ((unhide NX10).keep (below_regrown w10 n os)) ((unhide HE10).below (below_regrown w10 n os)) (by have := unhide Hx; omega) l3
  have qn := fun (n : Nat) (os : Array Obj) => eval_any D' un qe ce ev (grow (redrawn w10 n) os) ((unhide NN10).keep (below_regrown w10 n os)) ((unhide HE10).below (below_regrown w10 n os)) (unhide HwD') l3
  rw [(unhide HV).1] at qx
  rw [(unhide HV).2.1] at qm
  rw [(unhide HV).2.2] at qn
  obtain ⟨E', hE'⟩ : ∃ E', (!E) = E' := ⟨_, rfl⟩
  rw [hE'] at qn
  have eE : (E == E) = true := by cases E <;> rfl
  have nE : (E' != E) = true := by rw [← hE']; cases E <;> rfl
  simp only [Nv.val] at qm qx qn
  clear hE' m0 m1 m2 m3 m4 m5 m6 m7 u0 u1 u2 u3 u4 u5 u6 u7 
  clear hP1 hP2 hP3 hP4 hN1 hA hfx
  refine wp_region_quiet_below (by assumption) (by kernel_rfl) ?_
  repeat (go_big_quiet_step (first
    | (go_at_fn 40; refine Calls.regrown_of (q40 _ (by first | exact unhide NA10 | exact unhide NT10) _ _))
    | (go_at_fn 21; with_reducible refine Calls.regrown_of (qm _ _))
    | (go_at_fn 21; with_reducible refine Calls.regrown_of (qx _ _))
    | (go_at_fn 21; with_reducible refine Calls.regrown_of (qn _ _))))
  refine wpQuiet_nil ?_
  intro _ hw'
  obtain ⟨⟨dq, osq⟩, hw''⟩ := hw'
  subst hw''
  go_wp2
  go_ret
  exact ⟨ret_bool (by simpa using nE), below_sub (unhide HWX) (below_sub bX10 (below_regrown w10 dq osq))⟩
theorem pushMeans_any (x : Nd) (v : Nv) (qe : Option Addr) (ce : Nat) (ev : List Pr) (w : World) (hin : NdIn w v x) (he : SlOf encP 4 w qe ce ev) (hwt : wtN x ≤ 100000000) (l3 : ev.length ≤ 100000000000000) :
    Calls Try.prog 7 #[v.val, .slice qe ev.length ce] w fun e w' => e = .returned (.bool true) ∧ Below w.heap.size w w' := by
  cases hc : chkN x
  · exact pushMeans_no x v qe ce ev w hin hc hwt
  · exact pushMeans_yes x v qe ce ev w hin he hc hwt l3
end Go.Proofs.Ytppkjlmdfcifgaa
