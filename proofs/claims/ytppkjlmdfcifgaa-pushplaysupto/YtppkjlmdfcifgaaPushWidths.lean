/- The law PushWidths returns true, whatever trees of bounded weight it is given. -/
import Derived.Test.YtppkjlmdfcifgaaPushMeans
import Derived.Test.YtppkjlmdfcifgaaPushWid2
import Derived.Deep.RegionHeld3
namespace Go.Proofs.Ytppkjlmdfcifgaa
open Go.RowKit Go.Sort

theorem wrap_u (x : Int) : 0 ≤ IntKind.u64.wrap x := by
  have e : (2 : Int) ^ IntKind.u64.bits = 18446744073709551616 := by decide
  have es : IntKind.u64.signed = false := rfl
  simp [IntKind.wrap, e, es]
  omega
theorem w64 (x : Int) (h0 : -9223372036854775808 ≤ x) (h1 : x < 9223372036854775808) : wrap64 x = x := by
  unfold wrap64
  omega
theorem cNotG (x : Nd) (v : Nv) (w : World) (h : NdIn w v x) (hw : wtN x ≤ 1000000000) : Calls Try.prog 34 #[.agg #[.int .i64 v.kind, .string v.attr, .slice v.qi v.ni v.ci, .slice v.qw v.nw v.cw, .int .i64 v.lo, .int .i64 v.hi, .int .i64 v.op, .slice v.qk v.nk v.ck]] w fun e w' => NewT w.heap.size w' (notT x) e ∧ Below w.heap.size w w' := not_any x v w h hw
theorem cAndG (x y : Nd) (v u : Nv) (M : Nat) (w : World) (hM : w.heap[M]? = some (.cells #[.int .i64 v.kind, .string v.attr, .slice v.qi v.ni v.ci, .slice v.qw v.nw v.cw, .int .i64 v.lo, .int .i64 v.hi, .int .i64 v.op, .slice v.qk v.nk v.ck, .int .i64 u.kind, .string u.attr, .slice u.qi u.ni u.ci, .slice u.qw u.nw u.cw, .int .i64 u.lo, .int .i64 u.hi, .int .i64 u.op, .slice u.qk u.nk u.ck] 31 (0, 0))) (h1 : NdIn w v x) (h2 : NdIn w u y) (hw : wtL [x, y] ≤ 1000000000) : Calls Try.prog 32 #[.slice (some ⟨M, 0, none⟩) 2 2] w fun e w' => NewT w.heap.size w' (joinT 3 [x, y]) e ∧ Below w.heap.size w w' := and_any (some ⟨M, 0, none⟩) 2 [x, y] w (nds_two hM h1 h2) hw
theorem cOrG (x y : Nd) (v u : Nv) (M : Nat) (w : World) (hM : w.heap[M]? = some (.cells #[.int .i64 v.kind, .string v.attr, .slice v.qi v.ni v.ci, .slice v.qw v.nw v.cw, .int .i64 v.lo, .int .i64 v.hi, .int .i64 v.op, .slice v.qk v.nk v.ck, .int .i64 u.kind, .string u.attr, .slice u.qi u.ni u.ci, .slice u.qw u.nw u.cw, .int .i64 u.lo, .int .i64 u.hi, .int .i64 u.op, .slice u.qk u.nk u.ck] 31 (0, 0))) (h1 : NdIn w v x) (h2 : NdIn w u y) (hw : wtL [x, y] ≤ 1000000000) : Calls Try.prog 33 #[.slice (some ⟨M, 0, none⟩) 2 2] w fun e w' => NewT w.heap.size w' (joinT 4 [x, y]) e ∧ Below w.heap.size w w' := or_any (some ⟨M, 0, none⟩) 2 [x, y] w (nds_two hM h1 h2) hw
theorem cut_any (n m : Int) (w : World) (h : wrap64 (m + 1) = m + 1) : Calls Try.prog 49 #[.int .i64 n, .int .i64 m] w fun e w' => e = .returned (.int .i64 (min n (m + 1))) ∧ w' = w := by
  go_enter Try.func49, Try.ntmps49
  go_wp2
  go_ret
  exact ⟨rfl, rfl⟩
/-- A tree whose width is asked for. -/
def OkT (m : Int) (t : Nd) (r : Int) : Prop := chkN t = true ∧ wtN t ≤ 1000000000 ∧ wtN (downN t false) ≤ 1000000000 ∧ widN m (downN t false) = r
theorem width_ok (m : Int) (h1 : 1 ≤ m) (h2 : m ≤ 64) (u : Nv) (t : Nd) (r : Int) (w : World) (h : NdIn w u t) (ok : OkT m t r) : Calls Try.prog 38 #[.agg #[.int .i64 u.kind, .string u.attr, .slice u.qi u.ni u.ci, .slice u.qw u.nw u.cw, .int .i64 u.lo, .int .i64 u.hi, .int .i64 u.op, .slice u.qk u.nk u.ck], .int .i64 m] w fun e w' => e = .returned (.tuple #[.int .i64 r, .int .i64 0]) ∧ Below w.heap.size w w' := by
  obtain ⟨o1, o2, o3, o4⟩ := ok
  have := pushWidth_any t m u w h o2 o3
  rw [show WidthA t m = r by unfold WidthA; rw [o1, if_pos rfl, if_pos ⟨h1, h2⟩]; exact o4, show WidthE t m = 0 by unfold WidthE; rw [o1, if_pos rfl, if_pos ⟨h1, h2⟩]] at this
  exact this
theorem chk_two {op : Int} (ho : op = 3 ∨ op = 4) {a b : Nd} (ha : chkN a = true) (hb : chkN b = true) : chkN (joinT op [a, b]) = true := by
  rcases ho with rfl | rfl <;> simp [joinT, chkN, chkL, nodeB, zero8, ha, hb]
theorem wt_two (op : Int) (a b : Nd) : wtN (joinT op [a, b]) = wtN a + wtN b + 1 := by
  have e : (⟨#[]⟩ : ByteArray).size = 0 := rfl
  simp only [joinT, wtN, wtL, wordsWt, List.length_nil, e]; omega
theorem okT_of {m : Int} {t : Nd} {r : Int} (hc : chkN t = true) (hw : wtN t ≤ 400000000) (hr : widN m (downN t false) = r) : OkT m t r := ⟨hc, by omega, by have := wt_down t false hc; omega, hr⟩
set_option maxRecDepth 100000 in
set_option maxHeartbeats 16000000 in
theorem pushWidths_yes (a b : Nd) (va vb : Nv) (most : Int) (w : World) (ha : NdIn w va a) (hb : NdIn w vb b) (ca : chkN a = true) (cb : chkN b = true) (wa : wtN a ≤ 100000000) (wb : wtN b ≤ 100000000) :
    Calls Try.prog 8 #[.agg #[.int .i64 va.kind, .string va.attr, .slice va.qi va.ni va.ci, .slice va.qw va.nw va.cw, .int .i64 va.lo, .int .i64 va.hi, .int .i64 va.op, .slice va.qk va.nk va.ck], .agg #[.int .i64 vb.kind, .string vb.attr, .slice vb.qi vb.ni vb.ci, .slice vb.qw vb.nw vb.cw, .int .i64 vb.lo, .int .i64 vb.hi, .int .i64 vb.op, .slice vb.qk vb.nk vb.ck], .int .i64 most] w fun e w' => e = .returned (.bool true) ∧ Below w.heap.size w w' := by
  have mixed : Try.prog.follows .mixedOrders = true := by kernel_rfl
  obtain ⟨X, HX⟩ : ∃ X, (w.alloc (.cells #[.int .i64 va.kind, .string va.attr, .slice va.qi va.ni va.ci, .slice va.qw va.nw va.cw, .int .i64 va.lo, .int .i64 va.hi, .int .i64 va.op, .slice va.qk va.nk va.ck] 31)).alloc (.cells #[.int .i64 vb.kind, .string vb.attr, .slice vb.qi vb.ni vb.ci, .slice vb.qw vb.nw vb.cw, .int .i64 vb.lo, .int .i64 vb.hi, .int .i64 vb.op, .slice vb.qk vb.nk vb.ck] 31) = X := ⟨_, rfl⟩
  obtain ⟨hX0, hX1, hwX, hXs⟩ := twoM HX
  have hz0 := heap_lt hX0
  have hz1 := heap_lt hX1
  have hu := wrap_u most
  obtain ⟨r, hr⟩ : ∃ r, (IntKind.u64.wrap most).tmod 64 = r := ⟨_, rfl⟩
  have r0 : 0 ≤ r := by rw [← hr]; exact Int.tmod_nonneg _ hu
  have r1 : r < 64 := by rw [← hr]; exact Int.tmod_lt_of_pos _ (by omega)
  have w1 : wrap64 r = r := w64 r (by omega) (by omega)
  obtain ⟨m, hm⟩ : ∃ m, 1 + r = m := ⟨_, rfl⟩
  have w2 : wrap64 (1 + r) = m := by rw [hm]; exact w64 m (by omega) (by omega)
  have m1 : 1 ≤ m := by omega
  have m2 : m ≤ 64 := by omega
  have wm : wrap64 (m + 1) = m + 1 := w64 _ (by omega) (by omega)
  obtain ⟨A, hA⟩ : ∃ A, wN (downN a false) = A := ⟨_, rfl⟩
  obtain ⟨B, hB⟩ : ∃ B, wN (downN b false) = B := ⟨_, rfl⟩
  have mA := wid_min m1 m2 (downN a false) (chk_down a false ca)
  have mB := wid_min m1 m2 (downN b false) (chk_down b false cb)
  have m6 := wid_min (m := 64) (by omega) (by omega) (downN a false) (chk_down a false ca)
  rw [hA] at mA m6
  rw [hB] at mB
  obtain ⟨x, hx⟩ : ∃ x, min A (m + 1) = x := ⟨_, rfl⟩
  obtain ⟨y, hy⟩ : ∃ y, min B (m + 1) = y := ⟨_, rfl⟩
  obtain ⟨g, hg⟩ : ∃ g, min A (64 + 1) = g := ⟨_, rfl⟩
  obtain ⟨O, hO⟩ : ∃ O, min (A + B) (m + 1) = O := ⟨_, rfl⟩
  obtain ⟨P, hP⟩ : ∃ P, min (A * B) (m + 1) = P := ⟨_, rfl⟩
  rw [hx] at mA
  rw [hy] at mB
  rw [hg] at m6
  have o34 : (3 : Int) = 3 ∨ (3 : Int) = 4 := Or.inl rfl
  have o43 : (4 : Int) = 3 ∨ (4 : Int) = 4 := Or.inr rfl
  have dO : downN (joinT 4 [a, b]) false = .mk 0 ⟨#[]⟩ [] [] 0 0 4 [downN a false, downN b false] := by simp [joinT, downN, downL]
  have dP : downN (joinT 3 [a, b]) false = .mk 0 ⟨#[]⟩ [] [] 0 0 3 [downN a false, downN b false] := by simp [joinT, downN, downL]
  have eO : widN m (downN (joinT 4 [a, b]) false) = O := by
    rw [(wid_min m1 m2 _ (chk_down _ false (chk_two o43 ca cb))).1, dO]
    simp only [wN, wSum, if_true, hA, hB, Int.add_zero]; exact hO
  have eP : widN m (downN (joinT 3 [a, b]) false) = P := by
    rw [(wid_min m1 m2 _ (chk_down _ false (chk_two o34 ca cb))).1, dP]
    have n34 : ¬ (3 : Int) = 4 := by decide
    simp only [wN, wProd, if_neg n34, if_true, hA, hB, Int.mul_one]; exact hP
  obtain ⟨Q, hQ⟩ : ∃ Q, widN m (downN (notT (joinT 4 [a, b])) false) = Q := ⟨_, rfl⟩
  obtain ⟨S, hS⟩ : ∃ S, widN m (downN (notT (joinT 3 [a, b])) false) = S := ⟨_, rfl⟩
  have eN : widN m (downN (joinT 3 [notT a, notT b]) false) = Q := by
    rw [← hQ, down_notT]
    congr 1
  have eM : widN m (downN (joinT 4 [notT a, notT b]) false) = S := by
    rw [← hS, down_notT]
    congr 1
  have okO := hide (okT_of (m := m) (t := joinT 4 [a, b]) (chk_two o43 ca cb) (by rw [wt_two]; omega) eO)
  have okP := hide (okT_of (m := m) (t := joinT 3 [a, b]) (chk_two o34 ca cb) (by rw [wt_two]; omega) eP)
  have okN1 : OkT m (notT (joinT 4 [a, b])) Q := okT_of (by rw [chk_not]; exact chk_two o43 ca cb) (by rw [wt_not, wt_two]; omega) hQ
  have okM1 : OkT m (notT (joinT 3 [a, b])) S := okT_of (by rw [chk_not]; exact chk_two o34 ca cb) (by rw [wt_not, wt_two]; omega) hS
  have okN2 : OkT m (joinT 3 [notT a, notT b]) Q := okT_of (chk_two o34 (by rw [chk_not]; exact ca) (by rw [chk_not]; exact cb)) (by rw [wt_two, wt_not, wt_not]; omega) eN
  have okM2 : OkT m (joinT 4 [notT a, notT b]) S := okT_of (chk_two o43 (by rw [chk_not]; exact ca) (by rw [chk_not]; exact cb)) (by rw [wt_two, wt_not, wt_not]; omega) eM
  have okA : OkT m a x := okT_of ca (by omega) mA.1
  have okB : OkT m b y := okT_of cb (by omega) mB.1
  have ok6 : OkT 64 a g := okT_of ca (by omega) m6.1
  have hW := width_ok m m1 m2
  have hWa := fun (W : World) (h : NdIn W va a) => width_ok m m1 m2 va a x W h okA
  have hWb := fun (W : World) (h : NdIn W vb b) => width_ok m m1 m2 vb b y W h okB
  have hW64 := fun (W : World) (h : NdIn W va a) => width_ok 64 (by omega) (by omega) va a g W h ok6
  have x1 : 1 ≤ x ∧ x ≤ m + 1 := by omega
  have y1 : 1 ≤ y ∧ y ≤ m + 1 := by omega
  have wxy : wrap64 (x + y) = x + y := w64 _ (by omega) (by omega)
  obtain ⟨Z, hZ⟩ : ∃ Z, x * y = Z := ⟨_, rfl⟩
  have z1 : 0 ≤ Z ∧ Z ≤ 65 * 65 := by
    rw [← hZ]
    exact ⟨Int.mul_nonneg (by omega) (by omega), Int.mul_le_mul (by omega) (by omega) (by omega) (by omega)⟩
  have wxz : wrap64 Z = Z := w64 _ (by omega) (by omega)
  have hc1 := fun (W : World) => cut_any (x + y) m W wm
  have hc2 := fun (W : World) => cut_any Z m W wm
  have hc3 := fun (W : World) => cut_any g m W wm
  rw [show min (x + y) (m + 1) = O by omega] at hc1
  rw [show min Z (m + 1) = P by rw [← hZ, ← hx, ← hy, min_mul mA.2 mB.2 (by omega)]; exact hP] at hc2
  rw [show min g (m + 1) = x by omega] at hc3
  have hfx := fixed7_any X
  have HA := hide (ha.keep hwX)
  have HB := hide (hb.keep hwX)
  have HX0 := hide hX0
  have HX1 := hide hX1
  have HWX := hide hwX
  have Ha := hide (show wtN a ≤ 1000000000 by omega)
  have Hb := hide (show wtN b ≤ 1000000000 by omega)
  have Hab := hide (show wtL [a, b] ≤ 1000000000 by simp only [wtL]; omega)
  have Hww := hide (show wtL [notT a, notT b] ≤ 1000000000 by simp only [wtL, wt_not]; omega)
  have HwO := hide (show wtN (joinT 4 [a, b]) ≤ 1000000000 by rw [wt_two]; omega)
  have HwP := hide (show wtN (joinT 3 [a, b]) ≤ 1000000000 by rw [wt_two]; omega)
  have q1 : ¬ x < 1 := by omega
  have q2 : ¬ y < 1 := by omega
  have q3 : ¬ m + 1 < x := by omega
  have q4 : ¬ m + 1 < y := by omega
  have f1 : (O == O) = true := by simp
  have f2 : (P == P) = true := by simp
  have f3 : (Q == Q) = true := by simp
  have f4 : (S == S) = true := by simp
  have f5 : (x == x) = true := by simp
  clear ha hb ca cb wa wb hX0 hX1 hwX hu r0 r1 m1 m2 hm mA mB m6 hx hy hg hO hP dO dP eO eP hQ hS eN eM okA okB ok6 x1 y1 z1 hA hB o34 o43 hXs
  have okN := hide okN1
  have okM := hide okM1
  have K2 := hide (And.intro okN2 okM2)
  clear okN1 okM1 okN2 okM2
  go_enter Try.func8, Try.ntmps8
  go_wp2_with (first
    | (go_at_call 49; refine (hc1 _).mono ?_; rintro e wy ⟨rfl, hy⟩; subst hy)
    | (go_at_call 49; refine (hc2 _).mono ?_; rintro e wy ⟨rfl, hy⟩; subst hy)
    | (go_at_call 49; refine (hc3 _).mono ?_; rintro e wy ⟨rfl, hy⟩; subst hy)
    | (go_at_call 35; refine hfx.mono ?_; rintro e wz ⟨rfl, bz⟩; have RX := hide bz; clear bz; obtain ⟨s0, s1, s2, s3, s4, s5, s6, s7⟩ := of8' (((unhide RX).block _ hz0).trans (unhide HX0)); obtain ⟨t0, t1, t2, t3, t4, t5, t6, t7⟩ := of8' (((unhide RX).block _ hz1).trans (unhide HX1)); have zl : w.heap.size < wz.heap.size := (Nat.lt_of_lt_of_le hz0 (unhide RX).size); have zl2 : w.heap.size + 1 < wz.heap.size := (Nat.lt_of_lt_of_le hz1 (unhide RX).size))
    | (go_at_call 38; with_reducible refine (hW _ _ _ _ (unhide NT) (by first | exact unhide okO | exact unhide okP | exact unhide okN | exact unhide okM)).mono ?_; rintro e wz ⟨rfl, bz⟩; have RN := hide (below_sub (unhide RX) bz); clear RX; have RX := RN; clear RN bz s0 s1 s2 s3 s4 s5 s6 s7 t0 t1 t2 t3 t4 t5 t6 t7; obtain ⟨s0, s1, s2, s3, s4, s5, s6, s7⟩ := of8' (((unhide RX).block _ hz0).trans (unhide HX0)); obtain ⟨t0, t1, t2, t3, t4, t5, t6, t7⟩ := of8' (((unhide RX).block _ hz1).trans (unhide HX1)); have zl : w.heap.size < wz.heap.size := (Nat.lt_of_lt_of_le hz0 (unhide RX).size); have zl2 : w.heap.size + 1 < wz.heap.size := (Nat.lt_of_lt_of_le hz1 (unhide RX).size))
    | (go_at_call 38; with_reducible refine (hWa _ ((unhide HA).keep (unhide RX))).mono ?_; rintro e wz ⟨rfl, bz⟩; have RN := hide (below_sub (unhide RX) bz); clear RX; have RX := RN; clear RN bz s0 s1 s2 s3 s4 s5 s6 s7 t0 t1 t2 t3 t4 t5 t6 t7; obtain ⟨s0, s1, s2, s3, s4, s5, s6, s7⟩ := of8' (((unhide RX).block _ hz0).trans (unhide HX0)); obtain ⟨t0, t1, t2, t3, t4, t5, t6, t7⟩ := of8' (((unhide RX).block _ hz1).trans (unhide HX1)); have zl : w.heap.size < wz.heap.size := (Nat.lt_of_lt_of_le hz0 (unhide RX).size); have zl2 : w.heap.size + 1 < wz.heap.size := (Nat.lt_of_lt_of_le hz1 (unhide RX).size))
    | (go_at_call 38; with_reducible refine (hWb _ ((unhide HB).keep (unhide RX))).mono ?_; rintro e wz ⟨rfl, bz⟩; have RN := hide (below_sub (unhide RX) bz); clear RX; have RX := RN; clear RN bz s0 s1 s2 s3 s4 s5 s6 s7 t0 t1 t2 t3 t4 t5 t6 t7; obtain ⟨s0, s1, s2, s3, s4, s5, s6, s7⟩ := of8' (((unhide RX).block _ hz0).trans (unhide HX0)); obtain ⟨t0, t1, t2, t3, t4, t5, t6, t7⟩ := of8' (((unhide RX).block _ hz1).trans (unhide HX1)); have zl : w.heap.size < wz.heap.size := (Nat.lt_of_lt_of_le hz0 (unhide RX).size); have zl2 : w.heap.size + 1 < wz.heap.size := (Nat.lt_of_lt_of_le hz1 (unhide RX).size))
    | (go_at_call 38; with_reducible refine (hW64 _ ((unhide HA).keep (unhide RX))).mono ?_; rintro e wz ⟨rfl, bz⟩; have RN := hide (below_sub (unhide RX) bz); clear RX; have RX := RN; clear RN bz s0 s1 s2 s3 s4 s5 s6 s7 t0 t1 t2 t3 t4 t5 t6 t7; obtain ⟨s0, s1, s2, s3, s4, s5, s6, s7⟩ := of8' (((unhide RX).block _ hz0).trans (unhide HX0)); obtain ⟨t0, t1, t2, t3, t4, t5, t6, t7⟩ := of8' (((unhide RX).block _ hz1).trans (unhide HX1)); have zl : w.heap.size < wz.heap.size := (Nat.lt_of_lt_of_le hz0 (unhide RX).size); have zl2 : w.heap.size + 1 < wz.heap.size := (Nat.lt_of_lt_of_le hz1 (unhide RX).size))
    | (go_at_call 33; refine (cOrG a b va vb _ _ (by exact box_nw _ _) ((unhide HA).keep ((unhide RX).alloc (unhide RX).size _)) ((unhide HB).keep ((unhide RX).alloc (unhide RX).size _)) (unhide Hab)).mono ?_; rintro e wz ⟨⟨u, rfl, nu⟩, bz⟩; simp only [Nv.val]; have NT := hide nu.toIn; have RN := hide (below_sub ((unhide RX).alloc (unhide RX).size _) bz); clear RX; have RX := RN; clear RN bz s0 s1 s2 s3 s4 s5 s6 s7 t0 t1 t2 t3 t4 t5 t6 t7; obtain ⟨s0, s1, s2, s3, s4, s5, s6, s7⟩ := of8' (((unhide RX).block _ hz0).trans (unhide HX0)); obtain ⟨t0, t1, t2, t3, t4, t5, t6, t7⟩ := of8' (((unhide RX).block _ hz1).trans (unhide HX1)); have zl : w.heap.size < wz.heap.size := (Nat.lt_of_lt_of_le hz0 (unhide RX).size); have zl2 : w.heap.size + 1 < wz.heap.size := (Nat.lt_of_lt_of_le hz1 (unhide RX).size); clear nu)
    | (go_at_call 32; refine (cAndG a b va vb _ _ (by exact box_nw _ _) ((unhide HA).keep ((unhide RX).alloc (unhide RX).size _)) ((unhide HB).keep ((unhide RX).alloc (unhide RX).size _)) (unhide Hab)).mono ?_; rintro e wz ⟨⟨u, rfl, nu⟩, bz⟩; simp only [Nv.val]; have NT := hide nu.toIn; have RN := hide (below_sub ((unhide RX).alloc (unhide RX).size _) bz); clear RX; have RX := RN; clear RN bz s0 s1 s2 s3 s4 s5 s6 s7 t0 t1 t2 t3 t4 t5 t6 t7; obtain ⟨s0, s1, s2, s3, s4, s5, s6, s7⟩ := of8' (((unhide RX).block _ hz0).trans (unhide HX0)); obtain ⟨t0, t1, t2, t3, t4, t5, t6, t7⟩ := of8' (((unhide RX).block _ hz1).trans (unhide HX1)); have zl : w.heap.size < wz.heap.size := (Nat.lt_of_lt_of_le hz0 (unhide RX).size); have zl2 : w.heap.size + 1 < wz.heap.size := (Nat.lt_of_lt_of_le hz1 (unhide RX).size); clear nu)
    | (go_at_call 34; refine (cNotG _ _ _ (unhide NT) (by first | exact unhide HwO | exact unhide HwP)).mono ?_; rintro e wz ⟨⟨u, rfl, nu⟩, bz⟩; simp only [Nv.val]; have NT := hide nu.toIn; have RN := hide (below_sub (unhide RX) bz); clear RX; have RX := RN; clear RN bz s0 s1 s2 s3 s4 s5 s6 s7 t0 t1 t2 t3 t4 t5 t6 t7; obtain ⟨s0, s1, s2, s3, s4, s5, s6, s7⟩ := of8' (((unhide RX).block _ hz0).trans (unhide HX0)); obtain ⟨t0, t1, t2, t3, t4, t5, t6, t7⟩ := of8' (((unhide RX).block _ hz1).trans (unhide HX1)); have zl : w.heap.size < wz.heap.size := (Nat.lt_of_lt_of_le hz0 (unhide RX).size); have zl2 : w.heap.size + 1 < wz.heap.size := (Nat.lt_of_lt_of_le hz1 (unhide RX).size); clear nu))
  clear okN
  have okN := hide (unhide K2).1
  have hl0 := zl
  have hl1 := zl2
  obtain ⟨V, hV⟩ : ∃ V, V = wz := ⟨_, rfl⟩
  subst hV
  go_region_held3 (fun w' => w'.cell? ⟨w.heap.size, 0, none⟩ = some (.int .i64 va.kind) ∧ w'.cell? ⟨w.heap.size, 1, none⟩ = some (.string va.attr) ∧ w'.cell? ⟨w.heap.size, 2, none⟩ = some (.slice va.qi va.ni va.ci) ∧ w'.cell? ⟨w.heap.size, 3, none⟩ = some (.slice va.qw va.nw va.cw) ∧ w'.cell? ⟨w.heap.size, 4, none⟩ = some (.int .i64 va.lo) ∧ w'.cell? ⟨w.heap.size, 5, none⟩ = some (.int .i64 va.hi) ∧ w'.cell? ⟨w.heap.size, 6, none⟩ = some (.int .i64 va.op) ∧ w'.cell? ⟨w.heap.size, 7, none⟩ = some (.slice va.qk va.nk va.ck) ∧ w'.cell? ⟨w.heap.size + 1, 0, none⟩ = some (.int .i64 vb.kind) ∧ w'.cell? ⟨w.heap.size + 1, 1, none⟩ = some (.string vb.attr) ∧ w'.cell? ⟨w.heap.size + 1, 2, none⟩ = some (.slice vb.qi vb.ni vb.ci) ∧ w'.cell? ⟨w.heap.size + 1, 3, none⟩ = some (.slice vb.qw vb.nw vb.cw) ∧ w'.cell? ⟨w.heap.size + 1, 4, none⟩ = some (.int .i64 vb.lo) ∧ w'.cell? ⟨w.heap.size + 1, 5, none⟩ = some (.int .i64 vb.hi) ∧ w'.cell? ⟨w.heap.size + 1, 6, none⟩ = some (.int .i64 vb.op) ∧ w'.cell? ⟨w.heap.size + 1, 7, none⟩ = some (.slice vb.qk vb.nk vb.ck))
    (first | go_keep | exact ⟨(R4.cell (by exact hl0)).trans s0, (R4.cell (by exact hl0)).trans s1, (R4.cell (by exact hl0)).trans s2, (R4.cell (by exact hl0)).trans s3, (R4.cell (by exact hl0)).trans s4, (R4.cell (by exact hl0)).trans s5, (R4.cell (by exact hl0)).trans s6, (R4.cell (by exact hl0)).trans s7, (R4.cell (by exact hl1)).trans t0, (R4.cell (by exact hl1)).trans t1, (R4.cell (by exact hl1)).trans t2, (R4.cell (by exact hl1)).trans t3, (R4.cell (by exact hl1)).trans t4, (R4.cell (by exact hl1)).trans t5, (R4.cell (by exact hl1)).trans t6, (R4.cell (by exact hl1)).trans t7⟩)
    (first
      | (go_at_call 38; refine (hW _ _ _ _ (unhide NT) (by first | exact unhide okN | exact unhide okM)).mono ?_; rintro e wz ⟨rfl, bz⟩; have R4 : Below V.heap.size V wz := (below_sub R4 bz))
      | (go_at_call 32; refine (cAndG (notT a) (notT b) v1 v2 _ _ (by exact box_nw _ _) ((unhide N1).keep ((Below.refl _ _).alloc (Nat.le_refl _) _)) ((unhide N2).keep ((Below.refl _ _).alloc (Nat.le_refl _) _)) (unhide Hww)).mono ?_; rintro e wz ⟨⟨u, rfl, nu⟩, bz⟩; simp only [Nv.val]; have R4 : Below V.heap.size V wz := (below_sub (R4.alloc R4.size _) bz); have NT := hide nu.toIn; clear nu bz)
      | (go_at_call 34; have tst := unhide N1; clear tst; refine (cNotG b vb _ ((unhide HB).keep (below_sub (unhide RX) R4)) (unhide Hb)).mono ?_; rintro e wz ⟨⟨v2, rfl, nu⟩, bz⟩; simp only [Nv.val]; have R4 : Below V.heap.size V wz := (below_sub R4 bz); have N1 := hide ((unhide N1).keep bz); have N2 := hide nu.toIn; clear nu bz)
      | (go_at_call 34; refine (cNotG a va _ ((unhide HA).keep (below_sub (unhide RX) (Below.refl _ _).drew)) (unhide Ha)).mono ?_; rintro e wz ⟨⟨v1, rfl, nu⟩, bz⟩; simp only [Nv.val]; have R4 : Below V.heap.size V wz := (below_sub (Below.refl _ _).drew bz); have N1 := hide nu.toIn; clear nu bz))
  have RN := hide (below_sub (unhide RX) R4)
  clear RX R4 N1 N2 s0 s1 s2 s3 s4 s5 s6 s7 t0 t1 t2 t3 t4 t5 t6 t7 zl zl2 hl0 hl1
  have RX := RN
  clear RN
  obtain ⟨s0, s1, s2, s3, s4, s5, s6, s7⟩ := of8' (((unhide RX).block _ hz0).trans (unhide HX0))
  obtain ⟨t0, t1, t2, t3, t4, t5, t6, t7⟩ := of8' (((unhide RX).block _ hz1).trans (unhide HX1))
  have zl : w.heap.size < wz.heap.size := Nat.lt_of_lt_of_le hz0 (unhide RX).size
  have zl2 : w.heap.size + 1 < wz.heap.size := Nat.lt_of_lt_of_le hz1 (unhide RX).size
  go_wp2_with (first
    | (go_at_call 49; refine (hc1 _).mono ?_; rintro e wy ⟨rfl, hy⟩; subst hy)
    | (go_at_call 49; refine (hc2 _).mono ?_; rintro e wy ⟨rfl, hy⟩; subst hy)
    | (go_at_call 49; refine (hc3 _).mono ?_; rintro e wy ⟨rfl, hy⟩; subst hy)
    | (go_at_call 35; refine hfx.mono ?_; rintro e wz ⟨rfl, bz⟩; have RX := hide bz; clear bz; obtain ⟨s0, s1, s2, s3, s4, s5, s6, s7⟩ := of8' (((unhide RX).block _ hz0).trans (unhide HX0)); obtain ⟨t0, t1, t2, t3, t4, t5, t6, t7⟩ := of8' (((unhide RX).block _ hz1).trans (unhide HX1)); have zl : w.heap.size < wz.heap.size := (Nat.lt_of_lt_of_le hz0 (unhide RX).size); have zl2 : w.heap.size + 1 < wz.heap.size := (Nat.lt_of_lt_of_le hz1 (unhide RX).size))
    | (go_at_call 38; with_reducible refine (hW _ _ _ _ (unhide NT) (by first | exact unhide okO | exact unhide okP | exact unhide okN | exact unhide okM)).mono ?_; rintro e wz ⟨rfl, bz⟩; have RN := hide (below_sub (unhide RX) bz); clear RX; have RX := RN; clear RN bz s0 s1 s2 s3 s4 s5 s6 s7 t0 t1 t2 t3 t4 t5 t6 t7; obtain ⟨s0, s1, s2, s3, s4, s5, s6, s7⟩ := of8' (((unhide RX).block _ hz0).trans (unhide HX0)); obtain ⟨t0, t1, t2, t3, t4, t5, t6, t7⟩ := of8' (((unhide RX).block _ hz1).trans (unhide HX1)); have zl : w.heap.size < wz.heap.size := (Nat.lt_of_lt_of_le hz0 (unhide RX).size); have zl2 : w.heap.size + 1 < wz.heap.size := (Nat.lt_of_lt_of_le hz1 (unhide RX).size))
    | (go_at_call 38; with_reducible refine (hWa _ ((unhide HA).keep (unhide RX))).mono ?_; rintro e wz ⟨rfl, bz⟩; have RN := hide (below_sub (unhide RX) bz); clear RX; have RX := RN; clear RN bz s0 s1 s2 s3 s4 s5 s6 s7 t0 t1 t2 t3 t4 t5 t6 t7; obtain ⟨s0, s1, s2, s3, s4, s5, s6, s7⟩ := of8' (((unhide RX).block _ hz0).trans (unhide HX0)); obtain ⟨t0, t1, t2, t3, t4, t5, t6, t7⟩ := of8' (((unhide RX).block _ hz1).trans (unhide HX1)); have zl : w.heap.size < wz.heap.size := (Nat.lt_of_lt_of_le hz0 (unhide RX).size); have zl2 : w.heap.size + 1 < wz.heap.size := (Nat.lt_of_lt_of_le hz1 (unhide RX).size))
    | (go_at_call 38; with_reducible refine (hWb _ ((unhide HB).keep (unhide RX))).mono ?_; rintro e wz ⟨rfl, bz⟩; have RN := hide (below_sub (unhide RX) bz); clear RX; have RX := RN; clear RN bz s0 s1 s2 s3 s4 s5 s6 s7 t0 t1 t2 t3 t4 t5 t6 t7; obtain ⟨s0, s1, s2, s3, s4, s5, s6, s7⟩ := of8' (((unhide RX).block _ hz0).trans (unhide HX0)); obtain ⟨t0, t1, t2, t3, t4, t5, t6, t7⟩ := of8' (((unhide RX).block _ hz1).trans (unhide HX1)); have zl : w.heap.size < wz.heap.size := (Nat.lt_of_lt_of_le hz0 (unhide RX).size); have zl2 : w.heap.size + 1 < wz.heap.size := (Nat.lt_of_lt_of_le hz1 (unhide RX).size))
    | (go_at_call 38; with_reducible refine (hW64 _ ((unhide HA).keep (unhide RX))).mono ?_; rintro e wz ⟨rfl, bz⟩; have RN := hide (below_sub (unhide RX) bz); clear RX; have RX := RN; clear RN bz s0 s1 s2 s3 s4 s5 s6 s7 t0 t1 t2 t3 t4 t5 t6 t7; obtain ⟨s0, s1, s2, s3, s4, s5, s6, s7⟩ := of8' (((unhide RX).block _ hz0).trans (unhide HX0)); obtain ⟨t0, t1, t2, t3, t4, t5, t6, t7⟩ := of8' (((unhide RX).block _ hz1).trans (unhide HX1)); have zl : w.heap.size < wz.heap.size := (Nat.lt_of_lt_of_le hz0 (unhide RX).size); have zl2 : w.heap.size + 1 < wz.heap.size := (Nat.lt_of_lt_of_le hz1 (unhide RX).size))
    | (go_at_call 33; refine (cOrG a b va vb _ _ (by exact box_nw _ _) ((unhide HA).keep ((unhide RX).alloc (unhide RX).size _)) ((unhide HB).keep ((unhide RX).alloc (unhide RX).size _)) (unhide Hab)).mono ?_; rintro e wz ⟨⟨u, rfl, nu⟩, bz⟩; simp only [Nv.val]; have NT := hide nu.toIn; have RN := hide (below_sub ((unhide RX).alloc (unhide RX).size _) bz); clear RX; have RX := RN; clear RN bz s0 s1 s2 s3 s4 s5 s6 s7 t0 t1 t2 t3 t4 t5 t6 t7; obtain ⟨s0, s1, s2, s3, s4, s5, s6, s7⟩ := of8' (((unhide RX).block _ hz0).trans (unhide HX0)); obtain ⟨t0, t1, t2, t3, t4, t5, t6, t7⟩ := of8' (((unhide RX).block _ hz1).trans (unhide HX1)); have zl : w.heap.size < wz.heap.size := (Nat.lt_of_lt_of_le hz0 (unhide RX).size); have zl2 : w.heap.size + 1 < wz.heap.size := (Nat.lt_of_lt_of_le hz1 (unhide RX).size); clear nu)
    | (go_at_call 32; refine (cAndG a b va vb _ _ (by exact box_nw _ _) ((unhide HA).keep ((unhide RX).alloc (unhide RX).size _)) ((unhide HB).keep ((unhide RX).alloc (unhide RX).size _)) (unhide Hab)).mono ?_; rintro e wz ⟨⟨u, rfl, nu⟩, bz⟩; simp only [Nv.val]; have NT := hide nu.toIn; have RN := hide (below_sub ((unhide RX).alloc (unhide RX).size _) bz); clear RX; have RX := RN; clear RN bz s0 s1 s2 s3 s4 s5 s6 s7 t0 t1 t2 t3 t4 t5 t6 t7; obtain ⟨s0, s1, s2, s3, s4, s5, s6, s7⟩ := of8' (((unhide RX).block _ hz0).trans (unhide HX0)); obtain ⟨t0, t1, t2, t3, t4, t5, t6, t7⟩ := of8' (((unhide RX).block _ hz1).trans (unhide HX1)); have zl : w.heap.size < wz.heap.size := (Nat.lt_of_lt_of_le hz0 (unhide RX).size); have zl2 : w.heap.size + 1 < wz.heap.size := (Nat.lt_of_lt_of_le hz1 (unhide RX).size); clear nu)
    | (go_at_call 34; refine (cNotG _ _ _ (unhide NT) (by first | exact unhide HwO | exact unhide HwP)).mono ?_; rintro e wz ⟨⟨u, rfl, nu⟩, bz⟩; simp only [Nv.val]; have NT := hide nu.toIn; have RN := hide (below_sub (unhide RX) bz); clear RX; have RX := RN; clear RN bz s0 s1 s2 s3 s4 s5 s6 s7 t0 t1 t2 t3 t4 t5 t6 t7; obtain ⟨s0, s1, s2, s3, s4, s5, s6, s7⟩ := of8' (((unhide RX).block _ hz0).trans (unhide HX0)); obtain ⟨t0, t1, t2, t3, t4, t5, t6, t7⟩ := of8' (((unhide RX).block _ hz1).trans (unhide HX1)); have zl : w.heap.size < wz.heap.size := (Nat.lt_of_lt_of_le hz0 (unhide RX).size); have zl2 : w.heap.size + 1 < wz.heap.size := (Nat.lt_of_lt_of_le hz1 (unhide RX).size); clear nu))
  clear okM
  have okM := hide (unhide K2).2
  have hl0 := zl
  have hl1 := zl2
  obtain ⟨V, hV⟩ : ∃ V, V = wz := ⟨_, rfl⟩
  subst hV
  go_region_held3 (fun w' => w'.cell? ⟨w.heap.size, 0, none⟩ = some (.int .i64 va.kind) ∧ w'.cell? ⟨w.heap.size, 1, none⟩ = some (.string va.attr) ∧ w'.cell? ⟨w.heap.size, 2, none⟩ = some (.slice va.qi va.ni va.ci) ∧ w'.cell? ⟨w.heap.size, 3, none⟩ = some (.slice va.qw va.nw va.cw) ∧ w'.cell? ⟨w.heap.size, 4, none⟩ = some (.int .i64 va.lo) ∧ w'.cell? ⟨w.heap.size, 5, none⟩ = some (.int .i64 va.hi) ∧ w'.cell? ⟨w.heap.size, 6, none⟩ = some (.int .i64 va.op) ∧ w'.cell? ⟨w.heap.size, 7, none⟩ = some (.slice va.qk va.nk va.ck) ∧ w'.cell? ⟨w.heap.size + 1, 0, none⟩ = some (.int .i64 vb.kind) ∧ w'.cell? ⟨w.heap.size + 1, 1, none⟩ = some (.string vb.attr) ∧ w'.cell? ⟨w.heap.size + 1, 2, none⟩ = some (.slice vb.qi vb.ni vb.ci) ∧ w'.cell? ⟨w.heap.size + 1, 3, none⟩ = some (.slice vb.qw vb.nw vb.cw) ∧ w'.cell? ⟨w.heap.size + 1, 4, none⟩ = some (.int .i64 vb.lo) ∧ w'.cell? ⟨w.heap.size + 1, 5, none⟩ = some (.int .i64 vb.hi) ∧ w'.cell? ⟨w.heap.size + 1, 6, none⟩ = some (.int .i64 vb.op) ∧ w'.cell? ⟨w.heap.size + 1, 7, none⟩ = some (.slice vb.qk vb.nk vb.ck))
    (first | go_keep | exact ⟨(R4.cell (by exact hl0)).trans s0, (R4.cell (by exact hl0)).trans s1, (R4.cell (by exact hl0)).trans s2, (R4.cell (by exact hl0)).trans s3, (R4.cell (by exact hl0)).trans s4, (R4.cell (by exact hl0)).trans s5, (R4.cell (by exact hl0)).trans s6, (R4.cell (by exact hl0)).trans s7, (R4.cell (by exact hl1)).trans t0, (R4.cell (by exact hl1)).trans t1, (R4.cell (by exact hl1)).trans t2, (R4.cell (by exact hl1)).trans t3, (R4.cell (by exact hl1)).trans t4, (R4.cell (by exact hl1)).trans t5, (R4.cell (by exact hl1)).trans t6, (R4.cell (by exact hl1)).trans t7⟩)
    (first
      | (go_at_call 38; refine (hW _ _ _ _ (unhide NT) (by first | exact unhide okN | exact unhide okM)).mono ?_; rintro e wz ⟨rfl, bz⟩; have R4 : Below V.heap.size V wz := (below_sub R4 bz))
      | (go_at_call 33; refine (cOrG (notT a) (notT b) v1 v2 _ _ (by exact box_nw _ _) ((unhide N1).keep ((Below.refl _ _).alloc (Nat.le_refl _) _)) ((unhide N2).keep ((Below.refl _ _).alloc (Nat.le_refl _) _)) (unhide Hww)).mono ?_; rintro e wz ⟨⟨u, rfl, nu⟩, bz⟩; simp only [Nv.val]; have R4 : Below V.heap.size V wz := (below_sub (R4.alloc R4.size _) bz); have NT := hide nu.toIn; clear nu bz)
      | (go_at_call 34; have tst := unhide N1; clear tst; refine (cNotG b vb _ ((unhide HB).keep (below_sub (unhide RX) R4)) (unhide Hb)).mono ?_; rintro e wz ⟨⟨v2, rfl, nu⟩, bz⟩; simp only [Nv.val]; have R4 : Below V.heap.size V wz := (below_sub R4 bz); have N1 := hide ((unhide N1).keep bz); have N2 := hide nu.toIn; clear nu bz)
      | (go_at_call 34; refine (cNotG a va _ ((unhide HA).keep (below_sub (unhide RX) (Below.refl _ _).drew)) (unhide Ha)).mono ?_; rintro e wz ⟨⟨v1, rfl, nu⟩, bz⟩; simp only [Nv.val]; have R4 : Below V.heap.size V wz := (below_sub (Below.refl _ _).drew bz); have N1 := hide nu.toIn; clear nu bz))
  have RN := hide (below_sub (unhide RX) R4)
  clear RX R4 N1 N2 s0 s1 s2 s3 s4 s5 s6 s7 t0 t1 t2 t3 t4 t5 t6 t7 zl zl2 hl0 hl1
  have RX := RN
  clear RN
  obtain ⟨s0, s1, s2, s3, s4, s5, s6, s7⟩ := of8' (((unhide RX).block _ hz0).trans (unhide HX0))
  obtain ⟨t0, t1, t2, t3, t4, t5, t6, t7⟩ := of8' (((unhide RX).block _ hz1).trans (unhide HX1))
  have zl : w.heap.size < wz.heap.size := Nat.lt_of_lt_of_le hz0 (unhide RX).size
  have zl2 : w.heap.size + 1 < wz.heap.size := Nat.lt_of_lt_of_le hz1 (unhide RX).size
  go_wp2_with (first
    | (go_at_call 49; refine (hc1 _).mono ?_; rintro e wy ⟨rfl, hy⟩; subst hy)
    | (go_at_call 49; refine (hc2 _).mono ?_; rintro e wy ⟨rfl, hy⟩; subst hy)
    | (go_at_call 49; refine (hc3 _).mono ?_; rintro e wy ⟨rfl, hy⟩; subst hy)
    | (go_at_call 35; refine hfx.mono ?_; rintro e wz ⟨rfl, bz⟩; have RX := hide bz; clear bz; obtain ⟨s0, s1, s2, s3, s4, s5, s6, s7⟩ := of8' (((unhide RX).block _ hz0).trans (unhide HX0)); obtain ⟨t0, t1, t2, t3, t4, t5, t6, t7⟩ := of8' (((unhide RX).block _ hz1).trans (unhide HX1)); have zl : w.heap.size < wz.heap.size := (Nat.lt_of_lt_of_le hz0 (unhide RX).size); have zl2 : w.heap.size + 1 < wz.heap.size := (Nat.lt_of_lt_of_le hz1 (unhide RX).size))
    | (go_at_call 38; with_reducible refine (hW _ _ _ _ (unhide NT) (by first | exact unhide okO | exact unhide okP | exact unhide okN | exact unhide okM)).mono ?_; rintro e wz ⟨rfl, bz⟩; have RN := hide (below_sub (unhide RX) bz); clear RX; have RX := RN; clear RN bz s0 s1 s2 s3 s4 s5 s6 s7 t0 t1 t2 t3 t4 t5 t6 t7; obtain ⟨s0, s1, s2, s3, s4, s5, s6, s7⟩ := of8' (((unhide RX).block _ hz0).trans (unhide HX0)); obtain ⟨t0, t1, t2, t3, t4, t5, t6, t7⟩ := of8' (((unhide RX).block _ hz1).trans (unhide HX1)); have zl : w.heap.size < wz.heap.size := (Nat.lt_of_lt_of_le hz0 (unhide RX).size); have zl2 : w.heap.size + 1 < wz.heap.size := (Nat.lt_of_lt_of_le hz1 (unhide RX).size))
    | (go_at_call 38; with_reducible refine (hWa _ ((unhide HA).keep (unhide RX))).mono ?_; rintro e wz ⟨rfl, bz⟩; have RN := hide (below_sub (unhide RX) bz); clear RX; have RX := RN; clear RN bz s0 s1 s2 s3 s4 s5 s6 s7 t0 t1 t2 t3 t4 t5 t6 t7; obtain ⟨s0, s1, s2, s3, s4, s5, s6, s7⟩ := of8' (((unhide RX).block _ hz0).trans (unhide HX0)); obtain ⟨t0, t1, t2, t3, t4, t5, t6, t7⟩ := of8' (((unhide RX).block _ hz1).trans (unhide HX1)); have zl : w.heap.size < wz.heap.size := (Nat.lt_of_lt_of_le hz0 (unhide RX).size); have zl2 : w.heap.size + 1 < wz.heap.size := (Nat.lt_of_lt_of_le hz1 (unhide RX).size))
    | (go_at_call 38; with_reducible refine (hWb _ ((unhide HB).keep (unhide RX))).mono ?_; rintro e wz ⟨rfl, bz⟩; have RN := hide (below_sub (unhide RX) bz); clear RX; have RX := RN; clear RN bz s0 s1 s2 s3 s4 s5 s6 s7 t0 t1 t2 t3 t4 t5 t6 t7; obtain ⟨s0, s1, s2, s3, s4, s5, s6, s7⟩ := of8' (((unhide RX).block _ hz0).trans (unhide HX0)); obtain ⟨t0, t1, t2, t3, t4, t5, t6, t7⟩ := of8' (((unhide RX).block _ hz1).trans (unhide HX1)); have zl : w.heap.size < wz.heap.size := (Nat.lt_of_lt_of_le hz0 (unhide RX).size); have zl2 : w.heap.size + 1 < wz.heap.size := (Nat.lt_of_lt_of_le hz1 (unhide RX).size))
    | (go_at_call 38; with_reducible refine (hW64 _ ((unhide HA).keep (unhide RX))).mono ?_; rintro e wz ⟨rfl, bz⟩; have RN := hide (below_sub (unhide RX) bz); clear RX; have RX := RN; clear RN bz s0 s1 s2 s3 s4 s5 s6 s7 t0 t1 t2 t3 t4 t5 t6 t7; obtain ⟨s0, s1, s2, s3, s4, s5, s6, s7⟩ := of8' (((unhide RX).block _ hz0).trans (unhide HX0)); obtain ⟨t0, t1, t2, t3, t4, t5, t6, t7⟩ := of8' (((unhide RX).block _ hz1).trans (unhide HX1)); have zl : w.heap.size < wz.heap.size := (Nat.lt_of_lt_of_le hz0 (unhide RX).size); have zl2 : w.heap.size + 1 < wz.heap.size := (Nat.lt_of_lt_of_le hz1 (unhide RX).size))
    | (go_at_call 33; refine (cOrG a b va vb _ _ (by exact box_nw _ _) ((unhide HA).keep ((unhide RX).alloc (unhide RX).size _)) ((unhide HB).keep ((unhide RX).alloc (unhide RX).size _)) (unhide Hab)).mono ?_; rintro e wz ⟨⟨u, rfl, nu⟩, bz⟩; simp only [Nv.val]; have NT := hide nu.toIn; have RN := hide (below_sub ((unhide RX).alloc (unhide RX).size _) bz); clear RX; have RX := RN; clear RN bz s0 s1 s2 s3 s4 s5 s6 s7 t0 t1 t2 t3 t4 t5 t6 t7; obtain ⟨s0, s1, s2, s3, s4, s5, s6, s7⟩ := of8' (((unhide RX).block _ hz0).trans (unhide HX0)); obtain ⟨t0, t1, t2, t3, t4, t5, t6, t7⟩ := of8' (((unhide RX).block _ hz1).trans (unhide HX1)); have zl : w.heap.size < wz.heap.size := (Nat.lt_of_lt_of_le hz0 (unhide RX).size); have zl2 : w.heap.size + 1 < wz.heap.size := (Nat.lt_of_lt_of_le hz1 (unhide RX).size); clear nu)
    | (go_at_call 32; refine (cAndG a b va vb _ _ (by exact box_nw _ _) ((unhide HA).keep ((unhide RX).alloc (unhide RX).size _)) ((unhide HB).keep ((unhide RX).alloc (unhide RX).size _)) (unhide Hab)).mono ?_; rintro e wz ⟨⟨u, rfl, nu⟩, bz⟩; simp only [Nv.val]; have NT := hide nu.toIn; have RN := hide (below_sub ((unhide RX).alloc (unhide RX).size _) bz); clear RX; have RX := RN; clear RN bz s0 s1 s2 s3 s4 s5 s6 s7 t0 t1 t2 t3 t4 t5 t6 t7; obtain ⟨s0, s1, s2, s3, s4, s5, s6, s7⟩ := of8' (((unhide RX).block _ hz0).trans (unhide HX0)); obtain ⟨t0, t1, t2, t3, t4, t5, t6, t7⟩ := of8' (((unhide RX).block _ hz1).trans (unhide HX1)); have zl : w.heap.size < wz.heap.size := (Nat.lt_of_lt_of_le hz0 (unhide RX).size); have zl2 : w.heap.size + 1 < wz.heap.size := (Nat.lt_of_lt_of_le hz1 (unhide RX).size); clear nu)
    | (go_at_call 34; refine (cNotG _ _ _ (unhide NT) (by first | exact unhide HwO | exact unhide HwP)).mono ?_; rintro e wz ⟨⟨u, rfl, nu⟩, bz⟩; simp only [Nv.val]; have NT := hide nu.toIn; have RN := hide (below_sub (unhide RX) bz); clear RX; have RX := RN; clear RN bz s0 s1 s2 s3 s4 s5 s6 s7 t0 t1 t2 t3 t4 t5 t6 t7; obtain ⟨s0, s1, s2, s3, s4, s5, s6, s7⟩ := of8' (((unhide RX).block _ hz0).trans (unhide HX0)); obtain ⟨t0, t1, t2, t3, t4, t5, t6, t7⟩ := of8' (((unhide RX).block _ hz1).trans (unhide HX1)); have zl : w.heap.size < wz.heap.size := (Nat.lt_of_lt_of_le hz0 (unhide RX).size); have zl2 : w.heap.size + 1 < wz.heap.size := (Nat.lt_of_lt_of_le hz1 (unhide RX).size); clear nu))
  go_ret
  exact ⟨ret_bool (by simp), below_sub (unhide HWX) (unhide RX)⟩
set_option maxRecDepth 100000 in
set_option maxHeartbeats 4000000 in
theorem width_bad (x : Nd) (m : Int) (v : Nv) (w : World) (hin : NdIn w v x) (hx : chkN x = false) (hwt : wtN x ≤ 1000000000) :
    Calls Try.prog 38 #[.agg #[.int .i64 v.kind, .string v.attr, .slice v.qi v.ni v.ci, .slice v.qw v.nw v.cw, .int .i64 v.lo, .int .i64 v.hi, .int .i64 v.op, .slice v.qk v.nk v.ck], .int .i64 m] w fun e w' => e = .returned (.tuple #[.int .i64 0, .int .i64 1]) ∧ Below w.heap.size w w' := by
  obtain ⟨X, HX⟩ : ∃ X, w.alloc (.cells #[.int .i64 v.kind, .string v.attr, .slice v.qi v.ni v.ci, .slice v.qw v.nw v.cw, .int .i64 v.lo, .int .i64 v.hi, .int .i64 v.op, .slice v.qk v.nk v.ck] 31) = X := ⟨_, rfl⟩
  have hX0 : X.heap[w.heap.size]? = some (.cells #[.int .i64 v.kind, .string v.attr, .slice v.qi v.ni v.ci, .slice v.qw v.nw v.cw, .int .i64 v.lo, .int .i64 v.hi, .int .i64 v.op, .slice v.qk v.nk v.ck] 31 (0, 0)) := by rw [← HX]; exact box_nw _ _
  have hwX : Below w.heap.size w X := by rw [← HX]; exact (Below.refl _ _).alloc (Nat.le_refl _) _
  obtain ⟨x0, x1, x2, x3, x4, x5, x6, x7⟩ := of8' hX0
  have hp := push_any x v X (hin.keep hwX) hwt
  have HWX := hide hwX
  rw [hx, show code false = 1 from rfl] at hp
  simp only [Nv.val] at hp
  clear hin hwX hX0 hx
  go_enter Try.func38, Try.ntmps38
  go_wp2_with (go_at_call 36; refine hp.mono ?_; rintro e w1 ⟨⟨u, rfl, hu⟩, b1⟩; have B1 := hide b1; clear b1 hu)
  refine bodyPost_ret (v := .tuple #[.int .i64 0, .int .i64 1]) (by simp [results, Try.results38, go_sem]) rfl ⟨rfl, (below_sub (unhide HWX) (unhide B1)).alloc (below_sub (unhide HWX) (unhide B1)).size _⟩
set_option maxRecDepth 100000 in
set_option maxHeartbeats 8000000 in
theorem pushWidths_no (a b : Nd) (va vb : Nv) (most : Int) (w : World) (ha : NdIn w va a) (hb : NdIn w vb b) (hno : ¬ (chkN a = true ∧ chkN b = true)) (wa : wtN a ≤ 100000000) (wb : wtN b ≤ 100000000) :
    Calls Try.prog 8 #[.agg #[.int .i64 va.kind, .string va.attr, .slice va.qi va.ni va.ci, .slice va.qw va.nw va.cw, .int .i64 va.lo, .int .i64 va.hi, .int .i64 va.op, .slice va.qk va.nk va.ck], .agg #[.int .i64 vb.kind, .string vb.attr, .slice vb.qi vb.ni vb.ci, .slice vb.qw vb.nw vb.cw, .int .i64 vb.lo, .int .i64 vb.hi, .int .i64 vb.op, .slice vb.qk vb.nk vb.ck], .int .i64 most] w fun e w' => e = .returned (.bool true) ∧ Below w.heap.size w w' := by
  obtain ⟨X, HX⟩ : ∃ X, (w.alloc (.cells #[.int .i64 va.kind, .string va.attr, .slice va.qi va.ni va.ci, .slice va.qw va.nw va.cw, .int .i64 va.lo, .int .i64 va.hi, .int .i64 va.op, .slice va.qk va.nk va.ck] 31)).alloc (.cells #[.int .i64 vb.kind, .string vb.attr, .slice vb.qi vb.ni vb.ci, .slice vb.qw vb.nw vb.cw, .int .i64 vb.lo, .int .i64 vb.hi, .int .i64 vb.op, .slice vb.qk vb.nk vb.ck] 31) = X := ⟨_, rfl⟩
  obtain ⟨hX0, hX1, hwX, hXs⟩ := twoM HX
  have hz0 := heap_lt hX0
  have hz1 := heap_lt hX1
  have hu := wrap_u most
  obtain ⟨r, hr⟩ : ∃ r, (IntKind.u64.wrap most).tmod 64 = r := ⟨_, rfl⟩
  have r0 : 0 ≤ r := by rw [← hr]; exact Int.tmod_nonneg _ hu
  have r1 : r < 64 := by rw [← hr]; exact Int.tmod_lt_of_pos _ (by omega)
  have w1 : wrap64 r = r := w64 r (by omega) (by omega)
  obtain ⟨m, hm⟩ : ∃ m, 1 + r = m := ⟨_, rfl⟩
  have w2 : wrap64 (1 + r) = m := by rw [hm]; exact w64 m (by omega) (by omega)
  have m1 : 1 ≤ m := by omega
  have m2 : m ≤ 64 := by omega
  have hfx := fixed7_any X
  have HA := hide (ha.keep hwX)
  have HB := hide (hb.keep hwX)
  have HX0 := hide hX0
  have HX1 := hide hX1
  have HWX := hide hwX
  have hRa := fun (W : World) (h : NdIn W va a) => rchk_any a va W h (by omega)
  have hRb := fun (W : World) (h : NdIn W vb b) => rchk_any b vb W h (by omega)
  simp only [Nv.val] at hRa hRb
  clear ha hb hX0 hX1 hwX hu r0 r1 hm hXs
  cases ca : chkN a
  · have hWa := fun (W : World) (h : NdIn W va a) => width_bad a m va W h ca (by omega)
    have hWb : ∃ y e : Int, ∀ (W : World), NdIn W vb b → Calls Try.prog 38 #[.agg #[.int .i64 vb.kind, .string vb.attr, .slice vb.qi vb.ni vb.ci, .slice vb.qw vb.nw vb.cw, .int .i64 vb.lo, .int .i64 vb.hi, .int .i64 vb.op, .slice vb.qk vb.nk vb.ck], .int .i64 m] W fun e' w' => e' = .returned (.tuple #[.int .i64 y, .int .i64 e]) ∧ Below W.heap.size W w' := by
      cases cb : chkN b
      · exact ⟨0, 1, fun W h => width_bad b m vb W h cb (by omega)⟩
      · exact ⟨_, 0, fun W h => width_ok m m1 m2 vb b _ W h (okT_of cb (by omega) rfl)⟩
    obtain ⟨y, ey, hWb⟩ := hWb
    rw [ca] at hRa
    clear hno ca m1 m2 hRb
    go_enter Try.func8, Try.ntmps8
    go_wp2_with (first
      | (go_at_call 35; refine hfx.mono ?_; rintro e wz ⟨rfl, bz⟩; have RX := hide bz; clear bz; obtain ⟨s0, s1, s2, s3, s4, s5, s6, s7⟩ := of8' (((unhide RX).block _ hz0).trans (unhide HX0)); obtain ⟨t0, t1, t2, t3, t4, t5, t6, t7⟩ := of8' (((unhide RX).block _ hz1).trans (unhide HX1)); have zl : w.heap.size < wz.heap.size := (Nat.lt_of_lt_of_le hz0 (unhide RX).size); have zl2 : w.heap.size + 1 < wz.heap.size := (Nat.lt_of_lt_of_le hz1 (unhide RX).size))
      | (go_at_call 38; with_reducible refine (hWa _ ((unhide HA).keep (unhide RX))).mono ?_; rintro e wz ⟨rfl, bz⟩; have RN := hide (below_sub (unhide RX) bz); clear RX; have RX := RN; clear RN bz s0 s1 s2 s3 s4 s5 s6 s7 t0 t1 t2 t3 t4 t5 t6 t7; obtain ⟨s0, s1, s2, s3, s4, s5, s6, s7⟩ := of8' (((unhide RX).block _ hz0).trans (unhide HX0)); obtain ⟨t0, t1, t2, t3, t4, t5, t6, t7⟩ := of8' (((unhide RX).block _ hz1).trans (unhide HX1)); have zl : w.heap.size < wz.heap.size := (Nat.lt_of_lt_of_le hz0 (unhide RX).size); have zl2 : w.heap.size + 1 < wz.heap.size := (Nat.lt_of_lt_of_le hz1 (unhide RX).size))
      | (go_at_call 38; with_reducible refine (hWb _ ((unhide HB).keep (unhide RX))).mono ?_; rintro e wz ⟨rfl, bz⟩; have RN := hide (below_sub (unhide RX) bz); clear RX; have RX := RN; clear RN bz s0 s1 s2 s3 s4 s5 s6 s7 t0 t1 t2 t3 t4 t5 t6 t7; obtain ⟨s0, s1, s2, s3, s4, s5, s6, s7⟩ := of8' (((unhide RX).block _ hz0).trans (unhide HX0)); obtain ⟨t0, t1, t2, t3, t4, t5, t6, t7⟩ := of8' (((unhide RX).block _ hz1).trans (unhide HX1)); have zl : w.heap.size < wz.heap.size := (Nat.lt_of_lt_of_le hz0 (unhide RX).size); have zl2 : w.heap.size + 1 < wz.heap.size := (Nat.lt_of_lt_of_le hz1 (unhide RX).size))
      | (go_at_call 31; with_reducible refine (hRa _ ((unhide HA).keep (unhide RX))).mono ?_; rintro e wz ⟨rfl, bz⟩; have RN := hide (below_sub (unhide RX) bz); clear RX; have RX := RN; clear RN bz s0 s1 s2 s3 s4 s5 s6 s7 t0 t1 t2 t3 t4 t5 t6 t7; obtain ⟨s0, s1, s2, s3, s4, s5, s6, s7⟩ := of8' (((unhide RX).block _ hz0).trans (unhide HX0)); obtain ⟨t0, t1, t2, t3, t4, t5, t6, t7⟩ := of8' (((unhide RX).block _ hz1).trans (unhide HX1)); have zl : w.heap.size < wz.heap.size := (Nat.lt_of_lt_of_le hz0 (unhide RX).size); have zl2 : w.heap.size + 1 < wz.heap.size := (Nat.lt_of_lt_of_le hz1 (unhide RX).size))
      | (go_at_call 31; with_reducible refine (hRb _ ((unhide HB).keep (unhide RX))).mono ?_; rintro e wz ⟨rfl, bz⟩; have RN := hide (below_sub (unhide RX) bz); clear RX; have RX := RN; clear RN bz s0 s1 s2 s3 s4 s5 s6 s7 t0 t1 t2 t3 t4 t5 t6 t7; obtain ⟨s0, s1, s2, s3, s4, s5, s6, s7⟩ := of8' (((unhide RX).block _ hz0).trans (unhide HX0)); obtain ⟨t0, t1, t2, t3, t4, t5, t6, t7⟩ := of8' (((unhide RX).block _ hz1).trans (unhide HX1)); have zl : w.heap.size < wz.heap.size := (Nat.lt_of_lt_of_le hz0 (unhide RX).size); have zl2 : w.heap.size + 1 < wz.heap.size := (Nat.lt_of_lt_of_le hz1 (unhide RX).size)))
    go_ret
    exact ⟨ret_bool (by simp), below_sub (unhide HWX) (unhide RX)⟩
  · cases cb : chkN b
    · have hWa := fun (W : World) (h : NdIn W va a) => width_ok m m1 m2 va a _ W h (okT_of ca (by omega) rfl)
      have hWb := fun (W : World) (h : NdIn W vb b) => width_bad b m vb W h cb (by omega)
      obtain ⟨x, hx⟩ : ∃ x, widN m (downN a false) = x := ⟨_, rfl⟩
      rw [hx] at hWa
      rw [ca] at hRa
      rw [cb] at hRb
      clear hno ca cb m1 m2 hx
      go_enter Try.func8, Try.ntmps8
      go_wp2_with (first
      | (go_at_call 35; refine hfx.mono ?_; rintro e wz ⟨rfl, bz⟩; have RX := hide bz; clear bz; obtain ⟨s0, s1, s2, s3, s4, s5, s6, s7⟩ := of8' (((unhide RX).block _ hz0).trans (unhide HX0)); obtain ⟨t0, t1, t2, t3, t4, t5, t6, t7⟩ := of8' (((unhide RX).block _ hz1).trans (unhide HX1)); have zl : w.heap.size < wz.heap.size := (Nat.lt_of_lt_of_le hz0 (unhide RX).size); have zl2 : w.heap.size + 1 < wz.heap.size := (Nat.lt_of_lt_of_le hz1 (unhide RX).size))
      | (go_at_call 38; with_reducible refine (hWa _ ((unhide HA).keep (unhide RX))).mono ?_; rintro e wz ⟨rfl, bz⟩; have RN := hide (below_sub (unhide RX) bz); clear RX; have RX := RN; clear RN bz s0 s1 s2 s3 s4 s5 s6 s7 t0 t1 t2 t3 t4 t5 t6 t7; obtain ⟨s0, s1, s2, s3, s4, s5, s6, s7⟩ := of8' (((unhide RX).block _ hz0).trans (unhide HX0)); obtain ⟨t0, t1, t2, t3, t4, t5, t6, t7⟩ := of8' (((unhide RX).block _ hz1).trans (unhide HX1)); have zl : w.heap.size < wz.heap.size := (Nat.lt_of_lt_of_le hz0 (unhide RX).size); have zl2 : w.heap.size + 1 < wz.heap.size := (Nat.lt_of_lt_of_le hz1 (unhide RX).size))
      | (go_at_call 38; with_reducible refine (hWb _ ((unhide HB).keep (unhide RX))).mono ?_; rintro e wz ⟨rfl, bz⟩; have RN := hide (below_sub (unhide RX) bz); clear RX; have RX := RN; clear RN bz s0 s1 s2 s3 s4 s5 s6 s7 t0 t1 t2 t3 t4 t5 t6 t7; obtain ⟨s0, s1, s2, s3, s4, s5, s6, s7⟩ := of8' (((unhide RX).block _ hz0).trans (unhide HX0)); obtain ⟨t0, t1, t2, t3, t4, t5, t6, t7⟩ := of8' (((unhide RX).block _ hz1).trans (unhide HX1)); have zl : w.heap.size < wz.heap.size := (Nat.lt_of_lt_of_le hz0 (unhide RX).size); have zl2 : w.heap.size + 1 < wz.heap.size := (Nat.lt_of_lt_of_le hz1 (unhide RX).size))
      | (go_at_call 31; with_reducible refine (hRa _ ((unhide HA).keep (unhide RX))).mono ?_; rintro e wz ⟨rfl, bz⟩; have RN := hide (below_sub (unhide RX) bz); clear RX; have RX := RN; clear RN bz s0 s1 s2 s3 s4 s5 s6 s7 t0 t1 t2 t3 t4 t5 t6 t7; obtain ⟨s0, s1, s2, s3, s4, s5, s6, s7⟩ := of8' (((unhide RX).block _ hz0).trans (unhide HX0)); obtain ⟨t0, t1, t2, t3, t4, t5, t6, t7⟩ := of8' (((unhide RX).block _ hz1).trans (unhide HX1)); have zl : w.heap.size < wz.heap.size := (Nat.lt_of_lt_of_le hz0 (unhide RX).size); have zl2 : w.heap.size + 1 < wz.heap.size := (Nat.lt_of_lt_of_le hz1 (unhide RX).size))
      | (go_at_call 31; with_reducible refine (hRb _ ((unhide HB).keep (unhide RX))).mono ?_; rintro e wz ⟨rfl, bz⟩; have RN := hide (below_sub (unhide RX) bz); clear RX; have RX := RN; clear RN bz s0 s1 s2 s3 s4 s5 s6 s7 t0 t1 t2 t3 t4 t5 t6 t7; obtain ⟨s0, s1, s2, s3, s4, s5, s6, s7⟩ := of8' (((unhide RX).block _ hz0).trans (unhide HX0)); obtain ⟨t0, t1, t2, t3, t4, t5, t6, t7⟩ := of8' (((unhide RX).block _ hz1).trans (unhide HX1)); have zl : w.heap.size < wz.heap.size := (Nat.lt_of_lt_of_le hz0 (unhide RX).size); have zl2 : w.heap.size + 1 < wz.heap.size := (Nat.lt_of_lt_of_le hz1 (unhide RX).size)))
      go_ret
      exact ⟨ret_bool (by simp), below_sub (unhide HWX) (unhide RX)⟩
    · exact absurd ⟨ca, cb⟩ hno
theorem pushWidths_any (a b : Nd) (va vb : Nv) (most : Int) (w : World) (ha : NdIn w va a) (hb : NdIn w vb b) (wa : wtN a ≤ 100000000) (wb : wtN b ≤ 100000000) :
    Calls Try.prog 8 #[va.val, vb.val, .int .i64 most] w fun e w' => e = .returned (.bool true) ∧ Below w.heap.size w w' := by
  by_cases h : chkN a = true ∧ chkN b = true
  · exact pushWidths_yes a b va vb most w ha hb h.1 h.2 wa wb
  · exact pushWidths_no a b va vb most w ha hb h wa wb
end Go.Proofs.Ytppkjlmdfcifgaa
