/- The law EvalRules returns true, whatever trees of bounded weight and event it is given. -/
import Derived.Test.YtkpdhkdegoincaaRulesR5
import Derived.Test.YtkpdhkdegoincaaRulesR6
import Derived.Test.YtkpdhkdegoincaaRulesR7
import Derived.Test.YtkpdhkdegoincaaRulesR11
namespace Go.Proofs.Ytkpdhkdegoincaa
open Go.RowKit Go.Sort

set_option maxRecDepth 100000 in
set_option maxHeartbeats 16000000 in
theorem rules_bad1 (a b c : Nd) (va vb vc : Nv) (qe : Option Addr) (ce : Nat) (ev : List Pr) (w : World) (na : NdIn w va a) (nb : NdIn w vb b) (nc : NdIn w vc c) (he : SlOf encP 4 w qe ce ev) (hca : chkN a = false)
    (hw : wtN a + wtN b + wtN c ≤ 30000000) (hl : ev.length ≤ 100000000000000) :
    Calls Try.prog 4 #[.agg #[.int .i64 va.kind, .string va.attr, .slice va.qi va.ni va.ci, .slice va.qw va.nw va.cw, .int .i64 va.lo, .int .i64 va.hi, .int .i64 va.op, .slice va.qk va.nk va.ck], .agg #[.int .i64 vb.kind, .string vb.attr, .slice vb.qi vb.ni vb.ci, .slice vb.qw vb.nw vb.cw, .int .i64 vb.lo, .int .i64 vb.hi, .int .i64 vb.op, .slice vb.qk vb.nk vb.ck], .agg #[.int .i64 vc.kind, .string vc.attr, .slice vc.qi vc.ni vc.ci, .slice vc.qw vc.nw vc.cw, .int .i64 vc.lo, .int .i64 vc.hi, .int .i64 vc.op, .slice vc.qk vc.nk vc.ck], .slice qe ev.length ce] w fun e w' => e = .returned (.bool true) ∧ Below w.heap.size w w' := by
  have ra := fun (W : World) (h : NdIn W va a) => rchk_any a va W h (by omega)
  rw [hca] at ra
  simp only [Nv.val] at ra
  have Na := hide na
  have Nb := hide nb
  have Nc := hide nc
  have HE := hide he
  have HWT := hide hw
  have HL := hide hl
  have HCa := hide hca
  clear na nb nc he hw hl hca
  go_enter Try.func4, Try.ntmps4
  go_wp2_with (first
    | (go_at_call 18; refine (ra _ ((unhide Na).keep (below_sub (unhide BX) (unhide B1)))).mono ?_; rintro e w2 ⟨rfl, b2⟩; have B2 := hide (below_sub (unhide B1) b2); clear b2 ca0 ca1 ca2 ca3 ca4 ca5 ca6 ca7; skip)
    | (go_at_call 5; refine name_worldM ?_; intro X hX; obtain ⟨hA, hB, hC, bX, sX⟩ := three hX; clear hX; refine (fixed_any X).mono ?_; rintro e w1 ⟨rfl, b1⟩; have XA := hide hA; have XB := hide hB; have XC := hide (show X.heap[w.heap.size + 1 + 1]? = some (.cells #[.int .i64 vc.kind, .string vc.attr, .slice vc.qi vc.ni vc.ci, .slice vc.qw vc.nw vc.cw, .int .i64 vc.lo, .int .i64 vc.hi, .int .i64 vc.op, .slice vc.qk vc.nk vc.ck] 31 (0, 0)) from hC); have BX := hide bX; have B1 := hide b1; clear hA hB hC bX b1 sX; obtain ⟨ca0, ca1, ca2, ca3, ca4, ca5, ca6, ca7⟩ := of8' (((unhide B1).block _ (heap_lt (unhide XA))).trans (unhide XA))))
  go_ret
  exact ⟨ret_bool (by simp), below_sub (unhide BX) (unhide B2)⟩
set_option maxRecDepth 100000 in
set_option maxHeartbeats 16000000 in
theorem rules_bad2 (a b c : Nd) (va vb vc : Nv) (qe : Option Addr) (ce : Nat) (ev : List Pr) (w : World) (na : NdIn w va a) (nb : NdIn w vb b) (nc : NdIn w vc c) (he : SlOf encP 4 w qe ce ev) (hca : chkN a = true) (hcb : chkN b = false)
    (hw : wtN a + wtN b + wtN c ≤ 30000000) (hl : ev.length ≤ 100000000000000) :
    Calls Try.prog 4 #[.agg #[.int .i64 va.kind, .string va.attr, .slice va.qi va.ni va.ci, .slice va.qw va.nw va.cw, .int .i64 va.lo, .int .i64 va.hi, .int .i64 va.op, .slice va.qk va.nk va.ck], .agg #[.int .i64 vb.kind, .string vb.attr, .slice vb.qi vb.ni vb.ci, .slice vb.qw vb.nw vb.cw, .int .i64 vb.lo, .int .i64 vb.hi, .int .i64 vb.op, .slice vb.qk vb.nk vb.ck], .agg #[.int .i64 vc.kind, .string vc.attr, .slice vc.qi vc.ni vc.ci, .slice vc.qw vc.nw vc.cw, .int .i64 vc.lo, .int .i64 vc.hi, .int .i64 vc.op, .slice vc.qk vc.nk vc.ck], .slice qe ev.length ce] w fun e w' => e = .returned (.bool true) ∧ Below w.heap.size w w' := by
  have ra := fun (W : World) (h : NdIn W va a) => rchk_any a va W h (by omega)
  rw [hca] at ra
  simp only [Nv.val] at ra
  have rb := fun (W : World) (h : NdIn W vb b) => rchk_any b vb W h (by omega)
  rw [hcb] at rb
  simp only [Nv.val] at rb
  have Na := hide na
  have Nb := hide nb
  have Nc := hide nc
  have HE := hide he
  have HWT := hide hw
  have HL := hide hl
  have HCa := hide hca
  have HCb := hide hcb
  clear na nb nc he hw hl hca hcb
  go_enter Try.func4, Try.ntmps4
  go_wp2_with (first
    | (go_at_call 18; have tst := unhide B2; clear tst; refine (rb _ ((unhide Nb).keep (below_sub (unhide BX) (unhide B2)))).mono ?_; rintro e w3 ⟨rfl, b3⟩; have B3 := hide (below_sub (unhide B2) b3); clear b3 cb0 cb1 cb2 cb3 cb4 cb5 cb6 cb7; skip)
    | (go_at_call 18; refine (ra _ ((unhide Na).keep (below_sub (unhide BX) (unhide B1)))).mono ?_; rintro e w2 ⟨rfl, b2⟩; have B2 := hide (below_sub (unhide B1) b2); clear b2 ca0 ca1 ca2 ca3 ca4 ca5 ca6 ca7; obtain ⟨cb0, cb1, cb2, cb3, cb4, cb5, cb6, cb7⟩ := of8' (((unhide B2).block _ (heap_lt (unhide XB))).trans (unhide XB)))
    | (go_at_call 5; refine name_worldM ?_; intro X hX; obtain ⟨hA, hB, hC, bX, sX⟩ := three hX; clear hX; refine (fixed_any X).mono ?_; rintro e w1 ⟨rfl, b1⟩; have XA := hide hA; have XB := hide hB; have XC := hide (show X.heap[w.heap.size + 1 + 1]? = some (.cells #[.int .i64 vc.kind, .string vc.attr, .slice vc.qi vc.ni vc.ci, .slice vc.qw vc.nw vc.cw, .int .i64 vc.lo, .int .i64 vc.hi, .int .i64 vc.op, .slice vc.qk vc.nk vc.ck] 31 (0, 0)) from hC); have BX := hide bX; have B1 := hide b1; clear hA hB hC bX b1 sX; obtain ⟨ca0, ca1, ca2, ca3, ca4, ca5, ca6, ca7⟩ := of8' (((unhide B1).block _ (heap_lt (unhide XA))).trans (unhide XA))))
  go_ret
  exact ⟨ret_bool (by simp), below_sub (unhide BX) (unhide B3)⟩
set_option maxRecDepth 100000 in
set_option maxHeartbeats 16000000 in
theorem rules_bad3 (a b c : Nd) (va vb vc : Nv) (qe : Option Addr) (ce : Nat) (ev : List Pr) (w : World) (na : NdIn w va a) (nb : NdIn w vb b) (nc : NdIn w vc c) (he : SlOf encP 4 w qe ce ev) (hca : chkN a = true) (hcb : chkN b = true) (hcc : chkN c = false)
    (hw : wtN a + wtN b + wtN c ≤ 30000000) (hl : ev.length ≤ 100000000000000) :
    Calls Try.prog 4 #[.agg #[.int .i64 va.kind, .string va.attr, .slice va.qi va.ni va.ci, .slice va.qw va.nw va.cw, .int .i64 va.lo, .int .i64 va.hi, .int .i64 va.op, .slice va.qk va.nk va.ck], .agg #[.int .i64 vb.kind, .string vb.attr, .slice vb.qi vb.ni vb.ci, .slice vb.qw vb.nw vb.cw, .int .i64 vb.lo, .int .i64 vb.hi, .int .i64 vb.op, .slice vb.qk vb.nk vb.ck], .agg #[.int .i64 vc.kind, .string vc.attr, .slice vc.qi vc.ni vc.ci, .slice vc.qw vc.nw vc.cw, .int .i64 vc.lo, .int .i64 vc.hi, .int .i64 vc.op, .slice vc.qk vc.nk vc.ck], .slice qe ev.length ce] w fun e w' => e = .returned (.bool true) ∧ Below w.heap.size w w' := by
  have ra := fun (W : World) (h : NdIn W va a) => rchk_any a va W h (by omega)
  rw [hca] at ra
  simp only [Nv.val] at ra
  have rb := fun (W : World) (h : NdIn W vb b) => rchk_any b vb W h (by omega)
  rw [hcb] at rb
  simp only [Nv.val] at rb
  have rc := fun (W : World) (h : NdIn W vc c) => rchk_any c vc W h (by omega)
  rw [hcc] at rc
  simp only [Nv.val] at rc
  have Na := hide na
  have Nb := hide nb
  have Nc := hide nc
  have HE := hide he
  have HWT := hide hw
  have HL := hide hl
  have HCa := hide hca
  have HCb := hide hcb
  have HCc := hide hcc
  clear na nb nc he hw hl hca hcb hcc
  go_enter Try.func4, Try.ntmps4
  go_wp2_with (first
    | (go_at_call 18; have tst := unhide B3; clear tst; refine (rc _ ((unhide Nc).keep (below_sub (unhide BX) (unhide B3)))).mono ?_; rintro e w4 ⟨rfl, b4⟩; have B4 := hide (below_sub (unhide B3) b4); clear b4 cc0 cc1 cc2 cc3 cc4 cc5 cc6 cc7)
    | (go_at_call 18; have tst := unhide B2; clear tst; refine (rb _ ((unhide Nb).keep (below_sub (unhide BX) (unhide B2)))).mono ?_; rintro e w3 ⟨rfl, b3⟩; have B3 := hide (below_sub (unhide B2) b3); clear b3 cb0 cb1 cb2 cb3 cb4 cb5 cb6 cb7; obtain ⟨cc0, cc1, cc2, cc3, cc4, cc5, cc6, cc7⟩ := of8' (((unhide B3).block _ (heap_lt (unhide XC))).trans (unhide XC)))
    | (go_at_call 18; refine (ra _ ((unhide Na).keep (below_sub (unhide BX) (unhide B1)))).mono ?_; rintro e w2 ⟨rfl, b2⟩; have B2 := hide (below_sub (unhide B1) b2); clear b2 ca0 ca1 ca2 ca3 ca4 ca5 ca6 ca7; obtain ⟨cb0, cb1, cb2, cb3, cb4, cb5, cb6, cb7⟩ := of8' (((unhide B2).block _ (heap_lt (unhide XB))).trans (unhide XB)))
    | (go_at_call 5; refine name_worldM ?_; intro X hX; obtain ⟨hA, hB, hC, bX, sX⟩ := three hX; clear hX; refine (fixed_any X).mono ?_; rintro e w1 ⟨rfl, b1⟩; have XA := hide hA; have XB := hide hB; have XC := hide (show X.heap[w.heap.size + 1 + 1]? = some (.cells #[.int .i64 vc.kind, .string vc.attr, .slice vc.qi vc.ni vc.ci, .slice vc.qw vc.nw vc.cw, .int .i64 vc.lo, .int .i64 vc.hi, .int .i64 vc.op, .slice vc.qk vc.nk vc.ck] 31 (0, 0)) from hC); have BX := hide bX; have B1 := hide b1; clear hA hB hC bX b1 sX; obtain ⟨ca0, ca1, ca2, ca3, ca4, ca5, ca6, ca7⟩ := of8' (((unhide B1).block _ (heap_lt (unhide XA))).trans (unhide XA))))
  go_ret
  exact ⟨ret_bool (by simp), below_sub (unhide BX) (unhide B4)⟩
set_option maxRecDepth 100000 in
set_option maxHeartbeats 16000000 in
theorem rules_ok (a b c : Nd) (va vb vc : Nv) (qe : Option Addr) (ce : Nat) (ev : List Pr) (w : World) (na : NdIn w va a) (nb : NdIn w vb b) (nc : NdIn w vc c) (he : SlOf encP 4 w qe ce ev) (hca : chkN a = true) (hcb : chkN b = true) (hcc : chkN c = true)
    (hw : wtN a + wtN b + wtN c ≤ 30000000) (hl : ev.length ≤ 100000000000000) :
    Calls Try.prog 4 #[.agg #[.int .i64 va.kind, .string va.attr, .slice va.qi va.ni va.ci, .slice va.qw va.nw va.cw, .int .i64 va.lo, .int .i64 va.hi, .int .i64 va.op, .slice va.qk va.nk va.ck], .agg #[.int .i64 vb.kind, .string vb.attr, .slice vb.qi vb.ni vb.ci, .slice vb.qw vb.nw vb.cw, .int .i64 vb.lo, .int .i64 vb.hi, .int .i64 vb.op, .slice vb.qk vb.nk vb.ck], .agg #[.int .i64 vc.kind, .string vc.attr, .slice vc.qi vc.ni vc.ci, .slice vc.qw vc.nw vc.cw, .int .i64 vc.lo, .int .i64 vc.hi, .int .i64 vc.op, .slice vc.qk vc.nk vc.ck], .slice qe ev.length ce] w fun e w' => e = .returned (.bool true) ∧ Below w.heap.size w w' := by
  have ra := fun (W : World) (h : NdIn W va a) => rchk_any a va W h (by omega)
  rw [hca] at ra
  simp only [Nv.val] at ra
  have rb := fun (W : World) (h : NdIn W vb b) => rchk_any b vb W h (by omega)
  rw [hcb] at rb
  simp only [Nv.val] at rb
  have rc := fun (W : World) (h : NdIn W vc c) => rchk_any c vc W h (by omega)
  rw [hcc] at rc
  simp only [Nv.val] at rc
  have Na := hide na
  have Nb := hide nb
  have Nc := hide nc
  have HE := hide he
  have HWT := hide hw
  have HL := hide hl
  have HCa := hide hca
  have HCb := hide hcb
  have HCc := hide hcc
  clear na nb nc he hw hl hca hcb hcc
  go_enter Try.func4, Try.ntmps4
  go_wp2_with (first
    | (go_at_call 18; have tst := unhide B3; clear tst; refine (rc _ ((unhide Nc).keep (below_sub (unhide BX) (unhide B3)))).mono ?_; rintro e w4 ⟨rfl, b4⟩; have B4 := hide (below_sub (unhide B3) b4); clear b4 cc0 cc1 cc2 cc3 cc4 cc5 cc6 cc7)
    | (go_at_call 18; have tst := unhide B2; clear tst; refine (rb _ ((unhide Nb).keep (below_sub (unhide BX) (unhide B2)))).mono ?_; rintro e w3 ⟨rfl, b3⟩; have B3 := hide (below_sub (unhide B2) b3); clear b3 cb0 cb1 cb2 cb3 cb4 cb5 cb6 cb7; obtain ⟨cc0, cc1, cc2, cc3, cc4, cc5, cc6, cc7⟩ := of8' (((unhide B3).block _ (heap_lt (unhide XC))).trans (unhide XC)))
    | (go_at_call 18; refine (ra _ ((unhide Na).keep (below_sub (unhide BX) (unhide B1)))).mono ?_; rintro e w2 ⟨rfl, b2⟩; have B2 := hide (below_sub (unhide B1) b2); clear b2 ca0 ca1 ca2 ca3 ca4 ca5 ca6 ca7; obtain ⟨cb0, cb1, cb2, cb3, cb4, cb5, cb6, cb7⟩ := of8' (((unhide B2).block _ (heap_lt (unhide XB))).trans (unhide XB)))
    | (go_at_call 5; refine name_worldM ?_; intro X hX; obtain ⟨hA, hB, hC, bX, sX⟩ := three hX; clear hX; refine (fixed_any X).mono ?_; rintro e w1 ⟨rfl, b1⟩; have XA := hide hA; have XB := hide hB; have XC := hide (show X.heap[w.heap.size + 1 + 1]? = some (.cells #[.int .i64 vc.kind, .string vc.attr, .slice vc.qi vc.ni vc.ci, .slice vc.qw vc.nw vc.cw, .int .i64 vc.lo, .int .i64 vc.hi, .int .i64 vc.op, .slice vc.qk vc.nk vc.ck] 31 (0, 0)) from hC); have BX := hide bX; have B1 := hide b1; clear hA hB hC bX b1 sX; obtain ⟨ca0, ca1, ca2, ca3, ca4, ca5, ca6, ca7⟩ := of8' (((unhide B1).block _ (heap_lt (unhide XA))).trans (unhide XA))))
  refine reg5 a b c va vb vc _ _ _ qe ce ev (truN ev a) (truN ev b) (truN ev c) _ (((unhide B4).block _ (heap_lt (unhide XA))).trans (unhide XA)) (((unhide B4).block _ (heap_lt (unhide XB))).trans (unhide XB)) (((unhide B4).block _ (heap_lt (unhide XC))).trans (unhide XC)) ((unhide Na).keep (below_sub (unhide BX) (unhide B4))) ((unhide Nb).keep (below_sub (unhide BX) (unhide B4))) ((unhide Nc).keep (below_sub (unhide BX) (unhide B4))) ((unhide HE).below (below_sub (unhide BX) (unhide B4))) (unhide HCa) (unhide HCb) (unhide HCc) (unhide HWT) (unhide HL) rfl rfl rfl _ _ _ _ _ _ _ _ _ _ _ _ _ _ _ _ _ _ _ _ _ _ _ _ _ _ _ _ _ _ _ _ _ _ _ _ _ _ _ _ _ _ _ _ _ _ _ _ _ _ _ _ _ _ _ _ _ _ _ _ _ _ _ _ _ _ _ _ _ _ _ _ _ _ _ _ _ _ _ _ _ _ _ _ _ _ _ _ _ _ _ _ _ _ _ _ _ _ _ _ _ _ _ _ _ _ _ _ _ _ _ _ _ _ _ _ _ _ _ _ _ _ _ _ _ _ _ _ _ _ _ _ _ _ _ _ _ _ _ _ _ _ _ _ _ _ _ _ _ _ _ _ _ _ (fun _ _ o _ _ h => by cases o <;> exact h) ?_
  intro w5 t29 t30 t31 t32 t33 t34 t35 t36 t37 bq5
  have Bw5 := hide (below_sub (unhide B4) bq5)
  clear bq5
  go_wp2
  refine reg6 a b c va vb vc _ _ _ qe ce ev (truN ev a) (truN ev b) (truN ev c) _ (((unhide Bw5).block _ (heap_lt (unhide XA))).trans (unhide XA)) (((unhide Bw5).block _ (heap_lt (unhide XB))).trans (unhide XB)) (((unhide Bw5).block _ (heap_lt (unhide XC))).trans (unhide XC)) ((unhide Na).keep (below_sub (unhide BX) (unhide Bw5))) ((unhide Nb).keep (below_sub (unhide BX) (unhide Bw5))) ((unhide Nc).keep (below_sub (unhide BX) (unhide Bw5))) ((unhide HE).below (below_sub (unhide BX) (unhide Bw5))) (unhide HCa) (unhide HCb) (unhide HCc) (unhide HWT) (unhide HL) rfl rfl rfl _ _ _ _ _ _ _ _ _ _ _ _ _ _ _ _ _ _ _ _ _ _ _ _ _ _ _ _ _ _ _ _ _ _ _ _ _ _ _ _ _ _ _ _ _ _ _ _ _ _ _ _ _ _ _ _ _ _ _ _ _ _ _ _ _ _ _ _ _ _ _ _ _ _ _ _ _ _ _ _ _ _ _ _ _ _ _ _ _ _ _ _ _ _ _ _ _ _ _ _ _ _ _ _ _ _ _ _ _ _ _ _ _ _ _ _ _ _ _ _ _ _ _ _ _ _ _ _ _ _ _ _ _ _ _ _ _ _ _ _ _ _ _ _ _ _ _ _ _ _ _ _ _ _ (fun _ _ o _ _ h => by cases o <;> exact h) ?_
  intro w6 t38 t39 t40 t41 t42 t43 t44 t45 t46 t47 t48 t49 bq6
  have Bw6 := hide (below_sub (unhide Bw5) bq6)
  clear bq6
  go_wp2
  refine reg7 a b c va vb vc _ _ _ qe ce ev (truN ev a) (truN ev b) (truN ev c) _ (((unhide Bw6).block _ (heap_lt (unhide XA))).trans (unhide XA)) (((unhide Bw6).block _ (heap_lt (unhide XB))).trans (unhide XB)) (((unhide Bw6).block _ (heap_lt (unhide XC))).trans (unhide XC)) ((unhide Na).keep (below_sub (unhide BX) (unhide Bw6))) ((unhide Nb).keep (below_sub (unhide BX) (unhide Bw6))) ((unhide Nc).keep (below_sub (unhide BX) (unhide Bw6))) ((unhide HE).below (below_sub (unhide BX) (unhide Bw6))) (unhide HCa) (unhide HCb) (unhide HCc) (unhide HWT) (unhide HL) rfl rfl rfl _ _ _ _ _ _ _ _ _ _ _ _ _ _ _ _ _ _ _ _ _ _ _ _ _ _ _ _ _ _ _ _ _ _ _ _ _ _ _ _ _ _ _ _ _ _ _ _ _ _ _ _ _ _ _ _ _ _ _ _ _ _ _ _ _ _ _ _ _ _ _ _ _ _ _ _ _ _ _ _ _ _ _ _ _ _ _ _ _ _ _ _ _ _ _ _ _ _ _ _ _ _ _ _ _ _ _ _ _ _ _ _ _ _ _ _ _ _ _ _ _ _ _ _ _ _ _ _ _ _ _ _ _ _ _ _ _ _ _ _ _ _ _ _ _ _ _ _ _ (fun _ _ o _ _ h => by cases o <;> exact h) ?_
  intro w7 t50 t51 t52 t53 t54 t55 t56 t57 t58 t59 t60 t61 t62 t63 t64 t65 t66 t67 t68 t69 t70 t71 t72 t73 t74 t75 t76 t77 t78 t79 t80 t81 t82 t83 bq7
  have Bw7 := hide (below_sub (unhide Bw6) bq7)
  clear bq7
  obtain ⟨pa0, pa1, pa2, pa3, pa4, pa5, pa6, pa7⟩ := of8' (((unhide Bw7).block _ (heap_lt (unhide XA))).trans (unhide XA))
  obtain ⟨pb0, pb1, pb2, pb3, pb4, pb5, pb6, pb7⟩ := of8' (((unhide Bw7).block _ (heap_lt (unhide XB))).trans (unhide XB))
  go_wp2_with (first
    | (go_at_call 8; have tst := unhide G5; clear tst; refine (cEv (joinT 3 [a, a, b]) u3 qe ce ev _ (truN ev a && truN ev b) (unhide Nu3) ((unhide HE).below (below_sub (unhide BX) (unhide G5))) (ck3 3 (Or.inl rfl) a a b (unhide HCa) (unhide HCa) (unhide HCb)) ((tA3 ev a a b).trans (by cases truN ev a <;> cases truN ev b <;> rfl)) (by have := unhide HWT; have := _root_.Go.Proofs.Ytkpdhkdegoincaa.w3 3 a a b; omega) (unhide HL)).mono ?_; rintro e w15 ⟨rfl, bb⟩; have G6 := hide (below_sub (unhide G5) bb); clear bb Nu3 G5)
    | (go_at_call 19; have tst := unhide G4; clear tst; refine name_worldM ?_; intro Y hY; obtain ⟨yM, bY, sY⟩ := one_nw hY; clear hY; have R := hide (below_sub (unhide G4) bY); refine (cAnd3 a a b va va vb _ _ yM ((unhide Na).keep (below_sub (unhide BX) (unhide R))) ((unhide Na).keep (below_sub (unhide BX) (unhide R))) ((unhide Nb).keep (below_sub (unhide BX) (unhide R))) (by have := unhide HWT; omega)).mono ?_; rintro e w14 ⟨⟨u3, rfl, hu⟩, bb⟩; simp only [Nv.val]; have G5 := hide (below_sub (unhide R) bb); have Nu3 := hide hu.toIn; clear R bY sY yM hu bb pa0 pa1 pa2 pa3 pa4 pa5 pa6 pa7 pb0 pb1 pb2 pb3 pb4 pb5 pb6 pb7)
    | (go_at_call 8; have tst := unhide G3; clear tst; refine (cEv (joinT 4 [b, a, b]) u2 qe ce ev _ (truN ev a || truN ev b) (unhide Nu2) ((unhide HE).below (below_sub (unhide BX) (unhide G3))) (ck3 4 (Or.inr rfl) b a b (unhide HCb) (unhide HCa) (unhide HCb)) ((tO3 ev b a b).trans (by cases truN ev a <;> cases truN ev b <;> rfl)) (by have := unhide HWT; have := _root_.Go.Proofs.Ytkpdhkdegoincaa.w3 4 b a b; omega) (unhide HL)).mono ?_; rintro e w13 ⟨rfl, bb⟩; have G4 := hide (below_sub (unhide G3) bb); clear bb Nu2 G3; obtain ⟨pa0, pa1, pa2, pa3, pa4, pa5, pa6, pa7⟩ := of8' (((unhide G4).block _ (heap_lt (unhide XA))).trans (unhide XA)); obtain ⟨pb0, pb1, pb2, pb3, pb4, pb5, pb6, pb7⟩ := of8' (((unhide G4).block _ (heap_lt (unhide XB))).trans (unhide XB)))
    | (go_at_call 20; have tst := unhide G2; clear tst; refine name_worldM ?_; intro Y hY; obtain ⟨yM, bY, sY⟩ := one_nw hY; clear hY; have R := hide (below_sub (unhide G2) bY); refine (cOr3 b a b vb va vb _ _ yM ((unhide Nb).keep (below_sub (unhide BX) (unhide R))) ((unhide Na).keep (below_sub (unhide BX) (unhide R))) ((unhide Nb).keep (below_sub (unhide BX) (unhide R))) (by have := unhide HWT; omega)).mono ?_; rintro e w12 ⟨⟨u2, rfl, hu⟩, bb⟩; simp only [Nv.val]; have G3 := hide (below_sub (unhide R) bb); have Nu2 := hide hu.toIn; clear R bY sY yM hu bb pa0 pa1 pa2 pa3 pa4 pa5 pa6 pa7 pb0 pb1 pb2 pb3 pb4 pb5 pb6 pb7)
    | (go_at_call 8; have tst := unhide G1; clear tst; refine (cEv (joinT 3 [b, a]) u1 qe ce ev _ (truN ev a && truN ev b) (unhide Nu1) ((unhide HE).below (below_sub (unhide BX) (unhide G1))) (ck2 3 (Or.inl rfl) b a (unhide HCb) (unhide HCa)) ((tA2 ev b a).trans (by cases truN ev a <;> cases truN ev b <;> rfl)) (by have := unhide HWT; have := _root_.Go.Proofs.Ytkpdhkdegoincaa.w2 3 b a; omega) (unhide HL)).mono ?_; rintro e w11 ⟨rfl, bb⟩; have G2 := hide (below_sub (unhide G1) bb); clear bb Nu1 G1; obtain ⟨pa0, pa1, pa2, pa3, pa4, pa5, pa6, pa7⟩ := of8' (((unhide G2).block _ (heap_lt (unhide XA))).trans (unhide XA)); obtain ⟨pb0, pb1, pb2, pb3, pb4, pb5, pb6, pb7⟩ := of8' (((unhide G2).block _ (heap_lt (unhide XB))).trans (unhide XB)))
    | (go_at_call 19; have tst := unhide Bw7; clear tst; refine name_worldM ?_; intro Y hY; obtain ⟨yM, bY, sY⟩ := one_nw hY; clear hY; have R := hide (below_sub (unhide Bw7) bY); refine (cAnd b a vb va _ _ yM ((unhide Nb).keep (below_sub (unhide BX) (unhide R))) ((unhide Na).keep (below_sub (unhide BX) (unhide R))) (by have := unhide HWT; omega)).mono ?_; rintro e w10 ⟨⟨u1, rfl, hu⟩, bb⟩; simp only [Nv.val]; have G1 := hide (below_sub (unhide R) bb); have Nu1 := hide hu.toIn; clear R bY sY yM hu bb pa0 pa1 pa2 pa3 pa4 pa5 pa6 pa7 pb0 pb1 pb2 pb3 pb4 pb5 pb6 pb7))
  refine reg11 a b c va vb vc _ _ _ qe ce ev (truN ev a) (truN ev b) (truN ev c) _ (((unhide G6).block _ (heap_lt (unhide XA))).trans (unhide XA)) (((unhide G6).block _ (heap_lt (unhide XB))).trans (unhide XB)) (((unhide G6).block _ (heap_lt (unhide XC))).trans (unhide XC)) ((unhide Na).keep (below_sub (unhide BX) (unhide G6))) ((unhide Nb).keep (below_sub (unhide BX) (unhide G6))) ((unhide Nc).keep (below_sub (unhide BX) (unhide G6))) ((unhide HE).below (below_sub (unhide BX) (unhide G6))) (unhide HCa) (unhide HCb) (unhide HCc) (unhide HWT) (unhide HL) rfl rfl rfl _ _ _ _ _ _ _ _ _ _ _ _ _ _ _ _ _ _ _ _ _ _ _ _ _ _ _ _ _ _ _ _ _ _ _ _ _ _ _ _ _ _ _ _ _ _ _ _ _ _ _ _ _ _ _ _ _ _ _ _ _ _ _ _ _ _ _ _ _ _ _ _ _ _ _ _ _ _ _ _ _ _ _ _ _ _ _ _ _ _ _ _ _ _ _ _ _ _ _ _ _ _ _ _ _ _ _ _ _ _ _ _ _ _ _ _ _ _ _ _ _ _ _ _ _ _ _ _ _ _ _ _ _ _ _ _ _ _ _ _ _ _ _ _ _ _ _ _ _ (fun _ _ o _ _ h => by cases o <;> exact h) ?_
  intro w16 t115 t116 t117 t118 t119 t120 t121 t122 t123 t124 t125 t126 t127 t128 t129 t130 t131 t132 t133 t134 t135 t136 t137 t138 t139 t140 t141 t142 t143 t144 t145 t146 t147 t148 t149 t150 t151 t152 t153 t154 t155 bq11
  have Bw16 := hide (below_sub (unhide G6) bq11)
  clear bq11
  go_wp2
  go_ret
  exact ⟨ret_bool (by simp), below_sub (unhide BX) (unhide Bw16)⟩
theorem evalRules_any (a b c : Nd) (va vb vc : Nv) (qe : Option Addr) (ce : Nat) (ev : List Pr) (w : World) (na : NdIn w va a) (nb : NdIn w vb b) (nc : NdIn w vc c) (he : SlOf encP 4 w qe ce ev) (hw : wtN a + wtN b + wtN c ≤ 30000000) (hl : ev.length ≤ 100000000000000) :
    Calls Try.prog 4 #[va.val, vb.val, vc.val, .slice qe ev.length ce] w fun e w' => e = .returned (.bool true) ∧ Below w.heap.size w w' := by
  cases hca : chkN a
  · exact rules_bad1 a b c va vb vc qe ce ev w na nb nc he hca hw hl
  · cases hcb : chkN b
    · exact rules_bad2 a b c va vb vc qe ce ev w na nb nc he hca hcb hw hl
    · cases hcc : chkN c
      · exact rules_bad3 a b c va vb vc qe ce ev w na nb nc he hca hcb hcc hw hl
      · exact rules_ok a b c va vb vc qe ce ev w na nb nc he hca hcb hcc hw hl
end Go.Proofs.Ytkpdhkdegoincaa
