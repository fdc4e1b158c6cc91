/- The law TreeDepths returns true, whatever trees of bounded weight it is given. -/
import Derived.Test.YtmdkdkcjgjknoaaDoorFixed
import Derived.Test.YtmdkdkcjgjknoaaDoorJoin
import Derived.Test.YtmdkdkcjgjknoaaDoorDeep
import Derived.Lib.QuietBelow
namespace Go.Proofs.YtmdkdkcjgjknoaaDoor
open Go.RowKit Go.Sort

theorem below_undrew {w w' : World} (h : Below w.drew.heap.size w.drew w') : Below w.heap.size w w' := ⟨h.os, h.tape, h.output, h.size, h.block⟩
theorem name_world {P : Program} {f : Nat} {args : Array Value} {w : World} {Q : Ending → World → Prop} (h : ∀ Y, Y = w → Calls P f args Y Q) : Calls P f args w Q := h w rfl
theorem heap_old {w : World} {o : Obj} {k : Nat} (h : k < w.heap.size) : (w.alloc o).heap[k]? = w.heap[k]? := ((Below.refl w.heap.size w).alloc (Nat.le_refl _) o).block k h
theorem size_al (w : World) (o : Obj) : (w.alloc o).heap.size = w.heap.size + 1 := by simp
theorem two {w Y : World} {o1 o2 : Obj} (h : Y = (w.alloc o1).alloc o2) : Y.heap[w.heap.size]? = some o1 ∧ Y.heap[w.heap.size + 1]? = some o2 ∧ Below w.heap.size w Y ∧ Y.heap.size = w.heap.size + 2 := by
  subst h
  refine ⟨?_, ?_, ?_, by simp⟩
  · rw [heap_old (by simp only [size_al]; omega)]; exact box_nw _ _
  · have := box_nw (w.alloc o1) o2; rwa [size_al] at this
  · exact ((Below.refl _ _).alloc (Nat.le_refl _) _).alloc (by simp) _
theorem wrap_i (x : Int) (h0 : 0 ≤ x) (h1 : x ≤ 10000000000) : IntKind.i64.wrap x = x := by
  have e : (2 : Int) ^ IntKind.i64.bits = 18446744073709551616 := by decide
  have e2 : (2 : Int) ^ (IntKind.i64.bits - 1) = 9223372036854775808 := by decide
  simp [IntKind.wrap, e, e2]
  omega
theorem dep_pos (t : Nd) : 1 ≤ depN t := by cases t; simp [depN]
theorem join_lt (op : Int) {kids : List Nd} (h : kids.length < 2) : depN (joinT op kids) = max (depL kids) 1 ∧ sizeN (joinT op kids) = max (sizeL kids) 1 := by
  match kids, h with
  | [], _ => simp [joinT, zeroT, depN, depL, sizeN, sizeL]
  | [x], _ => have := dep_pos x; have := size_pos x; simp [joinT, depL, sizeL]; omega
theorem join_ge (op : Int) {kids : List Nd} (h : 2 ≤ kids.length) : depN (joinT op kids) = depL kids + 1 ∧ sizeN (joinT op kids) = sizeL kids + 1 := by
  rw [joinT_many op h]; simp [depN, sizeN]; omega
theorem not_dep (x : Nd) : depN (notT x) = depN x + 1 ∧ sizeN (notT x) = sizeN x + 1 := by simp [notT, depN, depL, sizeN, sizeL]; omega
set_option maxRecDepth 100000 in
set_option maxHeartbeats 8000000 in
theorem treeDepths_any (q : Option Addr) (c : Nat) (kids : List Nd) (w : World) (hG : G w) (hk : NdsOf w q c kids) (hwt : wtL kids ≤ 10000000) :
    Calls Tryd.prog 8 #[.slice q kids.length c] w fun e w' => e = .returned (.bool true) ∧ Below w.heap.size w w' := by
  have mixed : Tryd.prog.follows .mixedOrders = true := by kernel_rfl
  have hfx := fixed_any w hG
  have hsz : sizeL kids ≤ 10000000 := Nat.le_trans (sizeL_wt kids) hwt
  have hlen := len_size kids
  have hd2 := depL_size kids
  have a0 : (kids.length : Int) ≤ 10000000 := by omega
  have HK := hide hk
  have en16 : ∀ args w, (callFunc 16 args).run Tryd.prog w = .ok (.enter 16 args) w := enters_of Tryd.func16 (by kernel_rfl) rfl
  have en18 : ∀ args w, (callFunc 18 args).run Tryd.prog w = .ok (.enter 18 args) w := enters_of Tryd.func18 (by kernel_rfl) rfl
  clear hk
  go_enter Tryd.func8, Tryd.ntmps8
  go_wp2_with (go_at_call 9; refine hfx.mono ?_; rintro e w1 ⟨rfl, b1⟩; have B1 := hide b1; clear b1)
  go_loopw [3, 4, 13] (fun d s i wr => ∃ k : Nat, k ≤ kids.length ∧ i = .int .i64 k ∧ d = .int .i64 (depL (kids.take k) : Nat) ∧ s = .int .i64 (sizeL (kids.take k) : Nat) ∧ Below w.heap.size w wr) (fun _ _ i _ => kids.length - (intOf i).toNat)
  case atStart => exact ⟨0, by omega, rfl, rfl, rfl, unhide B1⟩
  case round =>
    obtain ⟨k, hkk, rfl, rfl, rfl, hbel⟩ := hrel
    by_cases hlt : k < kids.length
    · obtain ⟨x, hx, hxd⟩ := get_at hlt
      clear hxd
      obtain ⟨b, off, v, hq, hin, g0, g1, g2, g3, g4, g5, g6, g7⟩ := (unhide HK).on hx hbel
      subst hq
      have hxm : x ∈ kids := List.mem_of_getElem? hx
      have hxs := sizeL_mem hxm
      have hxw := wtL_mem hxm
      have hdx := dep_le x
      have hdp := dep_pos x
      have hsn := depL_take kids (k + 1)
      have hss := sizeL_take kids (k + 1)
      have hd1 := depL_take kids k
      have hs1 := sizeL_take kids k
      rw [depL_snoc hx] at hsn
      rw [sizeL_snoc hx] at hss
      have HSD := hide (depL_snoc hx)
      have HSS := hide (sizeL_snoc hx)
      have ki0 : (0 : Int) ≤ (k : Int) := by omega
      have ki1 : (k : Int) < (kids.length : Int) := by omega
      obtain ⟨D, hD⟩ : ∃ D : Nat, depN x = D := ⟨_, rfl⟩
      obtain ⟨Z, hZ⟩ : ∃ Z : Nat, sizeN x = Z := ⟨_, rfl⟩
      obtain ⟨p, hp⟩ : ∃ p : Nat, depL (kids.take k) = p := ⟨_, rfl⟩
      obtain ⟨s, hs⟩ : ∃ s : Nat, sizeL (kids.take k) = s := ⟨_, rfl⟩
      rw [hD, hp] at HSD
      rw [hZ, hs] at HSS
      rw [hD] at hdx hdp hsn
      rw [hZ] at hdx hxs hss
      rw [hp] at hsn hd1
      rw [hs] at hss hs1
      rw [hp, hs]
      have HB := hide hbel
      have HIN := hide hin
      have hD16 := fun (W : World) (hW : NdIn W v x) => depth_any x v W hW (by rw [hZ]; omega)
      have hD18 := fun (W : World) (hW : NdIn W v x) => size_any x v W hW (by rw [hZ]; omega)
      rw [hD] at hD16
      rw [hZ] at hD18
      have hxw2 : wtN x ≤ 1000000000 := by omega
      clear hx hbel hin hxm hp hs hxw hwt
      simp only [Nv.val] at hD16 hD18
      go_wp2
      obtain ⟨w0, hw0⟩ : ∃ w0, wr.alloc (.cells #[.int .i64 v.kind, .string v.attr, .slice v.qi v.ni v.ci, .slice v.qw v.nw v.cw, .int .i64 v.lo, .int .i64 v.hi, .int .i64 v.op, .slice v.qk v.nk v.ck] 28) = w0 := ⟨_, rfl⟩
      rw [hw0]
      have hb0 : Below wr.heap.size wr w0 := by rw [← hw0]; exact (Below.refl _ _).alloc (Nat.le_refl _) _
      have hm0 : w0.heap[wr.heap.size]? = some (.cells #[.int .i64 v.kind, .string v.attr, .slice v.qi v.ni v.ci, .slice v.qw v.nw v.cw, .int .i64 v.lo, .int .i64 v.hi, .int .i64 v.op, .slice v.qk v.nk v.ck] 28 (0, 0)) := by rw [← hw0]; exact box_nw _ _
      obtain ⟨y0, y1, y2, y3, y4, y5, y6, y7⟩ := of8' hm0
      have hz0 := heap_lt hm0
      have d0 : ∀ n os, (grow (redrawn w0 n) os).cell? ⟨wr.heap.size, 0, none⟩ = some (.int .i64 v.kind) := cell_regrown y0
      have d1 : ∀ n os, (grow (redrawn w0 n) os).cell? ⟨wr.heap.size, 1, none⟩ = some (.string v.attr) := cell_regrown y1
      have d2 : ∀ n os, (grow (redrawn w0 n) os).cell? ⟨wr.heap.size, 2, none⟩ = some (.slice v.qi v.ni v.ci) := cell_regrown y2
      have d3 : ∀ n os, (grow (redrawn w0 n) os).cell? ⟨wr.heap.size, 3, none⟩ = some (.slice v.qw v.nw v.cw) := cell_regrown y3
      have d4 : ∀ n os, (grow (redrawn w0 n) os).cell? ⟨wr.heap.size, 4, none⟩ = some (.int .i64 v.lo) := cell_regrown y4
      have d5 : ∀ n os, (grow (redrawn w0 n) os).cell? ⟨wr.heap.size, 5, none⟩ = some (.int .i64 v.hi) := cell_regrown y5
      have d6 : ∀ n os, (grow (redrawn w0 n) os).cell? ⟨wr.heap.size, 6, none⟩ = some (.int .i64 v.op) := cell_regrown y6
      have d7 : ∀ n os, (grow (redrawn w0 n) os).cell? ⟨wr.heap.size, 7, none⟩ = some (.slice v.qk v.nk v.ck) := cell_regrown y7
      have q16 := fun (n : Nat) (os : Array Obj) => hD16 (grow (redrawn w0 n) os) ((unhide HIN).keep (below_sub hb0 (below_regrown w0 n os)))
      have q18 := fun (n : Nat) (os : Array Obj) => hD18 (grow (redrawn w0 n) os) ((unhide HIN).keep (below_sub hb0 (below_regrown w0 n os)))
      have HB0 := hide hb0
      have HM0 := hide hm0
      clear hb0 hm0 y0 y1 y2 y3 y4 y5 y6 y7 hw0 g0 g1 g2 g3 g4 g5 g6 g7
      refine wp_region_quiet_below (by assumption) (by kernel_rfl) ?_
      repeat (go_big_quiet_step (first
        | (go_at_fn 16; refine Calls.regrown_of (q16 _ _))
        | (go_at_fn 18; refine Calls.regrown_of (q18 _ _))))
      refine wpQuiet_nil ?_
      intro _ hw'
      obtain ⟨⟨dq, osq⟩, hw''⟩ := hw'
      subst hw''
      obtain ⟨W1, hW1⟩ : ∃ W1, grow (redrawn w0 dq) osq = W1 := ⟨_, rfl⟩
      have hbW : Below w0.heap.size w0 W1 := by rw [← hW1]; exact below_regrown _ _ _
      obtain ⟨c0, c1, c2, c3, c4, c5, c6, c7⟩ := of8' ((hbW.block _ hz0).trans (unhide HM0))
      have hzW : wr.heap.size < W1.heap.size := Nat.lt_of_lt_of_le hz0 hbW.size
      have BW1 := hide (below_sub (unhide HB0) hbW)
      have f1 : decide ((D : Int) < 1) = false := by simp; omega
      have f2 : decide ((Z : Int) < (D : Int)) = false := by simp; omega
      have hNot := fun (W : World) (hW : NdIn W v x) => not_any x v W hW hxw2
      simp only [Nv.val] at hNot
      obtain ⟨m, hm⟩ : ∃ m : Nat, max p D = m := ⟨_, rfl⟩
      obtain ⟨t, ht⟩ : ∃ t : Nat, s + Z = t := ⟨_, rfl⟩
      have e1 : max (p : Int) (D : Int) = (m : Int) := by omega
      have e2 : (s : Int) + (Z : Int) = (t : Int) := by omega
      rw [hW1, e1, e2]
      clear e1 e2
      rw [hm] at HSD
      rw [ht] at HSS
      have hDn := fun (vn : Nv) (W : World) (hW : NdIn W vn (notT x)) => depth_any (notT x) vn W hW (by rw [(not_dep x).2, hZ]; omega)
      have hZn := fun (vn : Nv) (W : World) (hW : NdIn W vn (notT x)) => size_any (notT x) vn W hW (by rw [(not_dep x).2, hZ]; omega)
      rw [(not_dep x).1, hD] at hDn
      rw [(not_dep x).2, hZ] at hZn
      simp only [Nv.val, Int.natCast_add, Int.cast_ofNat_Int] at hDn hZn
      obtain ⟨D1, hD1⟩ : ∃ D1 : Int, (D : Int) + 1 = D1 := ⟨_, rfl⟩
      obtain ⟨Z1, hZ1⟩ : ∃ Z1 : Int, (Z : Int) + 1 = Z1 := ⟨_, rfl⟩
      have hwD : IntKind.i64.wrap D1 = D1 := wrap_i D1 (by omega) (by omega)
      have hwZ : IntKind.i64.wrap Z1 = Z1 := wrap_i Z1 (by omega) (by omega)
      have nD : (D1 != D1) = false := by simp
      have nZ : (Z1 != Z1) = false := by simp
      rw [hD1] at hDn
      rw [hZ1] at hZn
      have HIN1 := hide ((unhide HIN).keep (unhide BW1))
      clear d0 d1 d2 d3 d4 d5 d6 d7 q16 q18 hbW hW1 hm ht en16 en18 HM0
      go_wp2
      go_region_held3 (fun w' => w'.cell? ⟨wr.heap.size, 0, none⟩ = some (.int .i64 v.kind) ∧ w'.cell? ⟨wr.heap.size, 1, none⟩ = some (.string v.attr) ∧ w'.cell? ⟨wr.heap.size, 2, none⟩ = some (.slice v.qi v.ni v.ci) ∧ w'.cell? ⟨wr.heap.size, 3, none⟩ = some (.slice v.qw v.nw v.cw) ∧ w'.cell? ⟨wr.heap.size, 4, none⟩ = some (.int .i64 v.lo) ∧ w'.cell? ⟨wr.heap.size, 5, none⟩ = some (.int .i64 v.hi) ∧ w'.cell? ⟨wr.heap.size, 6, none⟩ = some (.int .i64 v.op) ∧ w'.cell? ⟨wr.heap.size, 7, none⟩ = some (.slice v.qk v.nk v.ck))
        (first | go_keep | exact ⟨(R2.cell (by exact hzW)).trans c0, (R2.cell (by exact hzW)).trans c1, (R2.cell (by exact hzW)).trans c2, (R2.cell (by exact hzW)).trans c3, (R2.cell (by exact hzW)).trans c4, (R2.cell (by exact hzW)).trans c5, (R2.cell (by exact hzW)).trans c6, (R2.cell (by exact hzW)).trans c7⟩)
        (first
          | (go_at_call 34; refine (hNot _ (by first | exact (unhide HIN1).keep R2 | exact (unhide HIN1).keep (Below.refl _ _).drew)).mono ?_; rintro e w2 ⟨⟨vn, rfl, hn⟩, hb2⟩; simp only [Nv.val]; have R2 : Below W1.heap.size W1 w2 := (by first | exact below_undrew hb2 | exact below_sub R2 hb2); have HN := hide (fun (V : World) (hv : Below w2.heap.size w2 V) => hn.toIn.keep hv); clear hn)
          | (go_at_call 16; refine (hDn _ _ (by first | exact unhide HN _ (Below.refl _ _) | exact unhide HN _ hb2)).mono ?_; rintro e w2 ⟨rfl, hb2⟩; have R2 : Below W1.heap.size W1 w2 := (by first | exact below_undrew hb2 | exact below_sub R2 hb2))
          | (go_at_call 18; refine (hZn _ _ (by first | exact unhide HN _ (Below.refl _ _) | exact unhide HN _ hb2)).mono ?_; rintro e w2 ⟨rfl, hb2⟩; have R2 : Below W1.heap.size W1 w2 := (by first | exact below_undrew hb2 | exact below_sub R2 hb2))
          | (go_at_call 16; refine (hD16 _ (by first | exact (unhide HIN1).keep R2 | exact (unhide HIN1).keep (Below.refl _ _).drew)).mono ?_; rintro e w2 ⟨rfl, hb2⟩; have R2 : Below W1.heap.size W1 w2 := (by first | exact below_undrew hb2 | exact below_sub R2 hb2))
          | (go_at_call 18; refine (hD18 _ (by first | exact (unhide HIN1).keep R2 | exact (unhide HIN1).keep (Below.refl _ _).drew)).mono ?_; rintro e w2 ⟨rfl, hb2⟩; have R2 : Below W1.heap.size W1 w2 := (by first | exact below_undrew hb2 | exact below_sub R2 hb2)))
      all_goals
        go_wp2
        go_roundw
        case rel => exact ⟨k + 1, by omega, by go_num, by rw [unhide HSD], by rw [unhide HSS], below_sub (unhide HB) (below_sub (unhide BW1) R2)⟩
        case measure => simp [intOf]; omega
    · have ki1 : ¬ (k : Int) < (kids.length : Int) := by omega
      rw [List.take_of_length_le (by omega)]
      have HB := hide hbel
      have HK1 := hide ((unhide HK).below hbel)
      have hA := and_any q c kids wr (unhide HK1) (by omega)
      clear hbel
      by_cases hl : kids.length < 2
      · have li : (kids.length : Int) < 2 := by omega
        have jd := (join_lt 3 hl).1
        have js := (join_lt 4 hl).2
        have hs3 := (join_lt 3 hl).2
        obtain ⟨dL, hdL⟩ : ∃ dL : Nat, depL kids = dL := ⟨_, rfl⟩
        obtain ⟨sL, hsL⟩ : ∃ sL : Nat, sizeL kids = sL := ⟨_, rfl⟩
        rw [hdL] at jd
        rw [hsL] at js hs3
        have hJ3 := fun (u : Nv) (W : World) (hW : NdIn W u (joinT 3 kids)) => depth_any (joinT 3 kids) u W hW (by rw [hs3]; omega)
        have hJ4 := fun (u : Nv) (W : World) (hW : NdIn W u (joinT 4 kids)) => size_any (joinT 4 kids) u W hW (by rw [js]; omega)
        obtain ⟨dA, hdA⟩ : ∃ dA : Nat, depN (joinT 3 kids) = dA := ⟨_, rfl⟩
        obtain ⟨sA, hsA⟩ : ∃ sA : Nat, sizeN (joinT 4 kids) = sA := ⟨_, rfl⟩
        rw [hdA] at hJ3 jd
        rw [hsA] at hJ4 js
        simp only [Nv.val] at hJ3 hJ4
        rw [hdL, hsL]
        have q1 : max (dL : Int) 1 = (dA : Int) := by omega
        have q2 : max (sL : Int) 1 = (sA : Int) := by omega
        clear jd js hs3 hdL hsL hdA hsA hl hd2 hsz hlen hkk hlt hfx
        go_wp2_with (first
          | (go_at_call 32; refine hA.mono ?_; rintro e w2 ⟨⟨va, rfl, na⟩, b2⟩; simp only [Nv.val]; have NA := hide na.toIn; have B2 := hide b2; clear na b2)
          | (go_at_call 33; refine (or_any q c kids _ ((unhide HK1).below (unhide B2)) (by omega)).mono ?_; rintro e w3 ⟨⟨vb, rfl, nb⟩, b3⟩; simp only [Nv.val]; have NB3 := hide nb.toIn; have NA3 := hide ((unhide NA).keep b3); have B3 := hide (below_sub (unhide B2) b3); clear nb b3)
          | (go_at_call 18; refine (hJ4 _ _ (by first | exact (unhide NA3).keep (below_sub (unhide HbY) R4) | exact (unhide NB3).keep (below_sub (unhide HbY) R4))).mono ?_; rintro e w4 ⟨rfl, b4⟩; have R4 : Below Y.heap.size Y w4 := (by first | exact below_sub R4 b4 | exact b4))
          | (go_at_call 16; refine name_world ?_; intro Y hY; obtain ⟨ya, yb, hbY, hYs⟩ := two hY; clear hY; have za : w3.heap.size < Y.heap.size := (by omega); have zb : w3.heap.size + 1 < Y.heap.size := (by omega); have YA := hide ya; have YB := hide yb; have HbY := hide hbY; clear ya yb hbY; refine (hJ3 _ _ (by first | exact (unhide NA3).keep (unhide HbY) | exact (unhide NB3).keep (unhide HbY))).mono ?_; rintro e w4 ⟨rfl, b4⟩; have R4 : Below Y.heap.size Y w4 := (by first | exact below_sub R4 b4 | exact b4); obtain ⟨p0, p1, p2, p3, p4, p5, p6, p7⟩ := of8' ((R4.block _ za).trans (unhide YA)); obtain ⟨q0, q1, q2, q3, q4, q5, q6, q7⟩ := of8' ((R4.block _ zb).trans (unhide YB))))
        go_ret
        exact ⟨ret_bool (by simp), below_sub (unhide HB) (below_sub (unhide B3) (below_sub (unhide HbY) R4))⟩
      · have li : ¬ (kids.length : Int) < 2 := by omega
        have jd3 := join_ge 3 (Nat.le_of_not_lt hl)
        have jd4 := join_ge 4 (Nat.le_of_not_lt hl)
        obtain ⟨dL, hdL⟩ : ∃ dL : Nat, depL kids = dL := ⟨_, rfl⟩
        obtain ⟨sL, hsL⟩ : ∃ sL : Nat, sizeL kids = sL := ⟨_, rfl⟩
        rw [hdL, hsL] at jd3 jd4
        obtain ⟨dA, hdA⟩ : ∃ dA : Nat, dL + 1 = dA := ⟨_, rfl⟩
        obtain ⟨sA, hsA⟩ : ∃ sA : Nat, sL + 1 = sA := ⟨_, rfl⟩
        rw [hdA, hsA] at jd3 jd4
        have hD3 := fun (u : Nv) (W : World) (hW : NdIn W u (joinT 3 kids)) => depth_any (joinT 3 kids) u W hW (by rw [jd3.2]; omega)
        have hD4 := fun (u : Nv) (W : World) (hW : NdIn W u (joinT 4 kids)) => depth_any (joinT 4 kids) u W hW (by rw [jd4.2]; omega)
        have hZ3 := fun (u : Nv) (W : World) (hW : NdIn W u (joinT 3 kids)) => size_any (joinT 3 kids) u W hW (by rw [jd3.2]; omega)
        have hZ4 := fun (u : Nv) (W : World) (hW : NdIn W u (joinT 4 kids)) => size_any (joinT 4 kids) u W hW (by rw [jd4.2]; omega)
        rw [jd3.1] at hD3
        rw [jd4.1] at hD4
        rw [jd3.2] at hZ3
        rw [jd4.2] at hZ4
        simp only [Nv.val] at hD3 hD4 hZ3 hZ4
        rw [hdL, hsL]
        have bd : (dL : Int) ≤ 10000000 := by omega
        have bs : (sL : Int) ≤ 10000000 := by omega
        have q1 : (dL : Int) + 1 = (dA : Int) := by omega
        have q2 : (sL : Int) + 1 = (sA : Int) := by omega
        clear jd3 jd4 hdL hsL hdA hsA hl hd2 hsz hlen hkk hlt hfx
        go_wp2_with (first
          | (go_at_call 32; refine hA.mono ?_; rintro e w2 ⟨⟨va, rfl, na⟩, b2⟩; simp only [Nv.val]; have NA := hide na.toIn; have B2 := hide b2; clear na b2)
          | (go_at_call 33; refine (or_any q c kids _ ((unhide HK1).below (unhide B2)) (by omega)).mono ?_; rintro e w3 ⟨⟨vb, rfl, nb⟩, b3⟩; simp only [Nv.val]; have NB3 := hide nb.toIn; have NA3 := hide ((unhide NA).keep b3); have B3 := hide (below_sub (unhide B2) b3); clear nb b3)
          | (go_at_call 16; refine (hD4 _ _ (by first | exact (unhide NA3).keep (below_sub (unhide HbY) R4) | exact (unhide NB3).keep (below_sub (unhide HbY) R4))).mono ?_; rintro e w4 ⟨rfl, b4⟩; have R4 : Below Y.heap.size Y w4 := (by first | exact below_sub R4 b4 | exact b4); obtain ⟨p0, p1, p2, p3, p4, p5, p6, p7⟩ := of8' ((R4.block _ za).trans (unhide YA)); obtain ⟨q0, q1, q2, q3, q4, q5, q6, q7⟩ := of8' ((R4.block _ zb).trans (unhide YB)))
          | (go_at_call 18; refine (hZ3 _ _ (by first | exact (unhide NA3).keep (below_sub (unhide HbY) R4) | exact (unhide NB3).keep (below_sub (unhide HbY) R4))).mono ?_; rintro e w4 ⟨rfl, b4⟩; have R4 : Below Y.heap.size Y w4 := (by first | exact below_sub R4 b4 | exact b4); obtain ⟨p0, p1, p2, p3, p4, p5, p6, p7⟩ := of8' ((R4.block _ za).trans (unhide YA)); obtain ⟨q0, q1, q2, q3, q4, q5, q6, q7⟩ := of8' ((R4.block _ zb).trans (unhide YB)))
          | (go_at_call 18; refine (hZ4 _ _ (by first | exact (unhide NA3).keep (below_sub (unhide HbY) R4) | exact (unhide NB3).keep (below_sub (unhide HbY) R4))).mono ?_; rintro e w4 ⟨rfl, b4⟩; have R4 : Below Y.heap.size Y w4 := (by first | exact below_sub R4 b4 | exact b4))
          | (go_at_call 16; refine name_world ?_; intro Y hY; obtain ⟨ya, yb, hbY, hYs⟩ := two hY; clear hY; have za : w3.heap.size < Y.heap.size := (by omega); have zb : w3.heap.size + 1 < Y.heap.size := (by omega); have YA := hide ya; have YB := hide yb; have HbY := hide hbY; clear ya yb hbY; refine (hD3 _ _ (by first | exact (unhide NA3).keep (unhide HbY) | exact (unhide NB3).keep (unhide HbY))).mono ?_; rintro e w4 ⟨rfl, b4⟩; have R4 : Below Y.heap.size Y w4 := (by first | exact below_sub R4 b4 | exact b4); obtain ⟨p0, p1, p2, p3, p4, p5, p6, p7⟩ := of8' ((R4.block _ za).trans (unhide YA)); obtain ⟨q0, q1, q2, q3, q4, q5, q6, q7⟩ := of8' ((R4.block _ zb).trans (unhide YB))))
        go_ret
        exact ⟨ret_bool (by simp), below_sub (unhide HB) (below_sub (unhide B3) (below_sub (unhide HbY) R4))⟩
end Go.Proofs.YtmdkdkcjgjknoaaDoor
