/- The law DnfBack returns true, whatever conjunctions of bounded weight and event it is given. -/
import Derived.Test.YtppkjlmdfcifgaaDnfFixed
import Derived.Test.YtppkjlmdfcifgaaDnfBackPlain
import Derived.Test.YtppkjlmdfcifgaaDnfSame
import Derived.Test.YtppkjlmdfcifgaaEvEval
import Derived.Test.YtppkjlmdfcifgaaSameNode
namespace Go.Proofs.Ytppkjlmdfcifgaa
open Go.RowKit Go.Sort

set_option maxRecDepth 100000 in
set_option maxHeartbeats 4000000 in
theorem dnfBack_any (q : Option Addr) (c : Nat) (cs : List (List Lt)) (qe : Option Addr) (ce : Nat) (ev : List Pr) (w : World) (hl : CjsOf w q c cs) (he : SlOf encP 4 w qe ce ev) (wc : ∀ ls ∈ cs, ls.length ≤ 1000000000 ∧ wtL (ls.map litN) ≤ 400000000 ∧ litBound ls) (wt : wtL (cs.map treeC) ≤ 100000000) (ln : cs.length ≤ 1000000000) (l3 : ev.length ≤ 1000000000) :
    Calls Try.prog 14 #[.slice q cs.length c, .slice qe ev.length ce] w fun e w' => e = .returned (.bool true) ∧ Below w.heap.size w w' := by
  have hfx := fixed8_any w
  have hTr := fun (W : World) (hW : Below w.heap.size w W) => tree_any q c cs W (hl.below hW) (fun ls h => ⟨(wc ls h).1, (wc ls h).2.1⟩) (by omega) ln
  have a0 : (cs.length : Int) ≤ 1000000000 := by omega
  have HL := hide hl
  have HE := hide he
  have HWC := hide wc
  have HWT := hide wt
  clear hl he wc wt
  by_cases hok : (treeOk cs && !cs.isEmpty) = true
  · have hE : treeE cs = 0 ∧ treeT cs = joinT 4 (cs.map treeC) := by unfold treeE treeT; rw [hok]; exact ⟨rfl, rfl⟩
    rw [hE.1, hE.2] at hTr
    rw [Bool.and_eq_true] at hok
    obtain ⟨ho, hne⟩ := hok
    have hn : cs ≠ [] := by rintro rfl; simp at hne
    obtain ⟨b1, b2, b3⟩ := exp_back ho hn
    obtain ⟨T, hT⟩ : ∃ T, joinT 4 (cs.map treeC) = T := ⟨_, rfl⟩
    have hTw : wtN T ≤ 100000001 := by rw [← hT]; have := wt_join8 4 (cs.map treeC); have := unhide HWT; omega
    rw [hT] at hTr b1 b2 b3
    have hEx := fun (v : Nv) (W : World) (h : NdIn W v T) => expand_any T 64 v W h (by omega)
    have hEv := fun (v : Nv) (W : World) (h : NdIn W v T) (h2 : SlOf encP 4 W qe ce ev) => eval_any T v qe ce ev W h h2 (by omega) (by omega)
    have hAn := fun (W : World) (hW : Below w.heap.size w W) => dnfAny_any qe ce ev q c cs W ((unhide HE).below hW) ((unhide HL).below hW) (fun ls h => ⟨(unhide HWC ls h).2.2, (unhide HWC ls h).1⟩) (by omega) ln
    simp only [Nv.val] at hEx hEv
    rw [b3 ev] at hEv
    clear hT hE hne hn ho
    by_cases h64 : cs.length ≤ 64
    · obtain ⟨x1, x2⟩ := b1 h64
      rw [x1, x2] at hEx
      have hSm := fun (q2 : Option Addr) (c2 : Nat) (W : World) (h : CjsOf W q2 c2 cs) (hW : Below w.heap.size w W) => sameCj_eq q2 c2 q c cs W h ((unhide HL).below hW) (fun ls h => ⟨(unhide HWC ls h).2.2, (unhide HWC ls h).1⟩) ln
      have e1 : decide ((cs.length : Int) > 64) = false := by simp; omega
      obtain ⟨r, hr⟩ : ∃ r, anyC ev cs = r := ⟨_, rfl⟩
      rw [hr] at hEv hAn
      have e2 : (r == r) = true := by simp
      clear b1 b2 b3 x1 x2 hr
      go_enter Try.func14, Try.ntmps14
      go_wp2_with (first
        | (go_at_call 55; refine hfx.mono ?_; rintro e w1 ⟨rfl, b1⟩; have B1 := hide b1; clear b1)
        | (go_at_call 62; refine (hTr _ (unhide B1)).mono ?_; rintro e w2 ⟨⟨v, rfl, hv⟩, b2⟩; simp only [Nv.val]; (obtain ⟨Y, HY⟩ : ∃ Y, w2.alloc (.cells #[.int .i64 v.kind, .string v.attr, .slice v.qi v.ni v.ci, .slice v.qw v.nw v.cw, .int .i64 v.lo, .int .i64 v.hi, .int .i64 v.op, .slice v.qk v.nk v.ck] 31) = Y := ⟨_, rfl⟩); have bY : Below w2.heap.size w2 Y := (by rw [← HY]; exact (Below.refl _ _).alloc (Nat.le_refl _) _); have yk : Y.heap[w2.heap.size]? = some (.cells #[.int .i64 v.kind, .string v.attr, .slice v.qi v.ni v.ci, .slice v.qw v.nw v.cw, .int .i64 v.lo, .int .i64 v.hi, .int .i64 v.op, .slice v.qk v.nk v.ck] 31 (0, 0)) := (by rw [← HY]; exact box_nw _ _); (obtain ⟨y0, y1, y2, y3, y4, y5, y6, y7⟩ := of8' yk); have YK := hide yk; have ly := heap_lt yk; have HV := hide (hv.toIn.keep bY); have B2 := hide (below_sub (unhide B1) (below_sub b2 bY)); clear hv b2 bY yk)
        | (go_at_call 56; refine (hEx v Y (unhide HV)).mono ?_; rintro e w3 ⟨⟨q3, c3, rfl, cj⟩, b3⟩; simp only; have CJ := hide cj.of; have HV3 := hide ((unhide HV).keep b3); have Y3 := hide ((b3.block _ ly).trans (unhide YK)); have B3 := hide (below_sub (unhide B2) b3); clear cj b3)
        | (go_at_call 58; refine (hSm q3 c3 w3 (unhide CJ) (unhide B3)).mono ?_; rintro e w4 ⟨rfl, b4⟩; have HV4 := hide ((unhide HV3).keep b4); (obtain ⟨t0, t1, t2, t3, t4, t5, t6, t7⟩ := of8' ((b4.block _ (heap_lt (unhide Y3))).trans (unhide Y3))); have B4 := hide (below_sub (unhide B3) b4); clear b4)
        | (go_at_call 21; refine (hEv v w4 (unhide HV4) ((unhide HE).below (unhide B4))).mono ?_; rintro e w5 ⟨rfl, b5⟩; have B5 := hide (below_sub (unhide B4) b5); clear b5)
        | (go_at_call 64; refine (hAn w5 (unhide B5)).mono ?_; rintro e w6 ⟨rfl, b6⟩; have B6 := hide (below_sub (unhide B5) b6); clear b6))
      go_ret
      exact ⟨ret_bool (by simp), unhide B6⟩
    · have x1 := b2 h64
      rw [x1] at hEx
      have e1 : decide ((cs.length : Int) > 64) = true := by simp; omega
      clear b1 b2 b3 x1
      go_enter Try.func14, Try.ntmps14
      go_wp2_with (first
        | (go_at_call 55; refine hfx.mono ?_; rintro e w1 ⟨rfl, b1⟩; have B1 := hide b1; clear b1)
        | (go_at_call 62; refine (hTr _ (unhide B1)).mono ?_; rintro e w2 ⟨⟨v, rfl, hv⟩, b2⟩; simp only [Nv.val]; (obtain ⟨Y, HY⟩ : ∃ Y, w2.alloc (.cells #[.int .i64 v.kind, .string v.attr, .slice v.qi v.ni v.ci, .slice v.qw v.nw v.cw, .int .i64 v.lo, .int .i64 v.hi, .int .i64 v.op, .slice v.qk v.nk v.ck] 31) = Y := ⟨_, rfl⟩); have bY : Below w2.heap.size w2 Y := (by rw [← HY]; exact (Below.refl _ _).alloc (Nat.le_refl _) _); have yk : Y.heap[w2.heap.size]? = some (.cells #[.int .i64 v.kind, .string v.attr, .slice v.qi v.ni v.ci, .slice v.qw v.nw v.cw, .int .i64 v.lo, .int .i64 v.hi, .int .i64 v.op, .slice v.qk v.nk v.ck] 31 (0, 0)) := (by rw [← HY]; exact box_nw _ _); (obtain ⟨y0, y1, y2, y3, y4, y5, y6, y7⟩ := of8' yk); have HV := hide (hv.toIn.keep bY); have B2 := hide (below_sub (unhide B1) (below_sub b2 bY)); clear hv b2 bY yk)
        | (go_at_call 56; refine (hEx v Y (unhide HV)).mono ?_; rintro e w3 ⟨⟨q3, c3, rfl, cj⟩, b3⟩; simp only; have B3 := hide (below_sub (unhide B2) b3); clear cj b3))
      go_ret
      exact ⟨ret_bool (by simp), unhide B3⟩
  · have hE : treeE cs = 1 ∧ treeT cs = zeroT := by unfold treeE treeT; rw [if_neg hok, if_neg hok]; exact ⟨rfl, rfl⟩
    rw [hE.1, hE.2] at hTr
    have hSz := fun (v : Nv) (W : World) (h : NdIn W v zeroT) => sameM_all zeroT zeroT v ⟨0, ⟨#[]⟩, none, 0, 0, none, 0, 0, 0, 0, 0, none, 0, 0⟩ W h (zero_from W 0).toIn (OkN.of_wt zeroT (Nat.le_trans (show wtN zeroT ≤ 100 by decide +kernel) (by omega)))
    simp only [sameT_yes rfl, Nv.val] at hSz
    clear hE hok
    go_enter Try.func14, Try.ntmps14
    go_wp2_with (first
      | (go_at_call 55; refine hfx.mono ?_; rintro e w1 ⟨rfl, b1⟩; have B1 := hide b1; clear b1)
      | (go_at_call 62; refine (hTr _ (unhide B1)).mono ?_; rintro e w2 ⟨⟨v, rfl, hv⟩, b2⟩; simp only [Nv.val]; (obtain ⟨Y, HY⟩ : ∃ Y, w2.alloc (.cells #[.int .i64 v.kind, .string v.attr, .slice v.qi v.ni v.ci, .slice v.qw v.nw v.cw, .int .i64 v.lo, .int .i64 v.hi, .int .i64 v.op, .slice v.qk v.nk v.ck] 31) = Y := ⟨_, rfl⟩); have bY : Below w2.heap.size w2 Y := (by rw [← HY]; exact (Below.refl _ _).alloc (Nat.le_refl _) _); have yk : Y.heap[w2.heap.size]? = some (.cells #[.int .i64 v.kind, .string v.attr, .slice v.qi v.ni v.ci, .slice v.qw v.nw v.cw, .int .i64 v.lo, .int .i64 v.hi, .int .i64 v.op, .slice v.qk v.nk v.ck] 31 (0, 0)) := (by rw [← HY]; exact box_nw _ _); (obtain ⟨y0, y1, y2, y3, y4, y5, y6, y7⟩ := of8' yk); have HV := hide (hv.toIn.keep bY); have B2 := hide (below_sub (unhide B1) (below_sub b2 bY)); clear hv b2 bY yk)
      | (go_at_call 40; refine (hSz v Y (unhide HV)).mono ?_; rintro e w3 ⟨rfl, b3⟩; have B3 := hide (below_sub (unhide B2) b3); clear b3))
    go_ret
    exact ⟨ret_bool (by simp), unhide B3⟩
end Go.Proofs.Ytppkjlmdfcifgaa
