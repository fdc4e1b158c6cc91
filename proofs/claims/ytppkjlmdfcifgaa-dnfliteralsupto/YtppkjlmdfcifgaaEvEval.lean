/- What eval.truth and eval.Eval return, for every tree and every event (the whole). -/
import Derived.Test.YtppkjlmdfcifgaaEvTruth
import Derived.Test.YtppkjlmdfcifgaaCloneTree
namespace Go.Proofs.Ytppkjlmdfcifgaa
open Go.RowKit Go.Sort

theorem two {w Y : World} {o1 o2 : Obj} (h : (w.alloc o1).alloc o2 = Y) : Y.heap[w.heap.size]? = some o1 ∧ Y.heap[w.heap.size + 1]? = some o2 ∧ Below w.heap.size w Y ∧ Y.heap.size = w.heap.size + 2 := by
  subst h
  have nw := box_nw (w.alloc o1) o2
  have hs : (w.alloc o1).heap.size = w.heap.size + 1 := by simp
  rw [hs] at nw
  refine ⟨?_, nw, ((Below.refl _ _).alloc (Nat.le_refl _) _).alloc (by simp) _, by simp⟩
  rw [((Below.refl (w.alloc o1).heap.size (w.alloc o1)).alloc (Nat.le_refl _) o2).block _ (by omega)]
  exact box_nw _ _
theorem of1' {w : World} {N : Nat} {a0 : Value} {T : TypeId} (h : w.heap[N]? = some (.cells #[a0] T (0, 0))) : w.cell? ⟨N, 0, none⟩ = some a0 := by rw [Lib.cell_of_heap h]; rfl
set_option maxRecDepth 100000 in
set_option maxHeartbeats 2000000 in
theorem truth_and (kind : Int) (attr : ByteArray) (qi : Option Addr) (ci : Nat) (ints : List Int) (qw : Option Addr) (cw : Nat) (words : List ByteArray) (lo hi op : Int) (qk : Option Addr) (ck : Nat) (kids : List Nd) (qe : Option Addr) (ce : Nat) (ev : List Pr) (w : World) (h3 : SlOf encP 4 w qe ce ev) (hop : op = 3) (hk : NdsOf w qk ck kids) (ih : ∀ x ∈ kids, TruP ev x) (hc : chkL kids = true) (hwt : wtL kids ≤ 1000000000) :
    Calls Try.prog 74 #[.agg #[.int .i64 kind, .string attr, .slice qi ints.length ci, .slice qw words.length cw, .int .i64 lo, .int .i64 hi, .int .i64 op, .slice qk kids.length ck], .slice qe ev.length ce] w fun e w' => e = .returned (.bool (!(kids.any (fun x => !truN ev x)))) ∧ Below w.heap.size w w' := by
  obtain ⟨X, HX⟩ : ∃ X, (w.alloc (.cells #[.int .i64 kind, .string attr, .slice qi ints.length ci, .slice qw words.length cw, .int .i64 lo, .int .i64 hi, .int .i64 op, .slice qk kids.length ck] 31)).alloc (.cells #[.slice qe ev.length ce] 23) = X := ⟨_, rfl⟩
  obtain ⟨x8, xe, bX, sX⟩ := two HX
  obtain ⟨c0, c1, c2, c3, c4, c5, c6, c7⟩ := of8' x8
  have ce0 := of1' xe
  have hgX := heap_lt xe
  have BX := hide bX
  have HE := hide (h3.below bX)
  clear h3 bX
  have hC := contFF ev (w.heap.size + 1) qe ce qk ck kids X (hk.below (unhide BX)) ce0 hgX (unhide HE) ih hc hwt
  clear hk ih
  subst hop
  generalize kids.any (fun x => !truN ev x) = r at hC ⊢
  go_enter Try.func74, Try.ntmps74
  go_wp2_with (go_at_call 115; refine hC.mono ?_; rintro e w1 ⟨rfl, b1⟩; have B1 := hide b1; clear b1)
  go_ret
  exact ⟨rfl, below_sub (unhide BX) (unhide B1)⟩
set_option maxRecDepth 100000 in
set_option maxHeartbeats 2000000 in
theorem truth_or (kind : Int) (attr : ByteArray) (qi : Option Addr) (ci : Nat) (ints : List Int) (qw : Option Addr) (cw : Nat) (words : List ByteArray) (lo hi op : Int) (qk : Option Addr) (ck : Nat) (kids : List Nd) (qe : Option Addr) (ce : Nat) (ev : List Pr) (w : World) (h3 : SlOf encP 4 w qe ce ev) (hop : op = 4) (hk : NdsOf w qk ck kids) (ih : ∀ x ∈ kids, TruP ev x) (hc : chkL kids = true) (hwt : wtL kids ≤ 1000000000) :
    Calls Try.prog 74 #[.agg #[.int .i64 kind, .string attr, .slice qi ints.length ci, .slice qw words.length cw, .int .i64 lo, .int .i64 hi, .int .i64 op, .slice qk kids.length ck], .slice qe ev.length ce] w fun e w' => e = .returned (.bool (kids.any (fun x => truN ev x))) ∧ Below w.heap.size w w' := by
  obtain ⟨X, HX⟩ : ∃ X, (w.alloc (.cells #[.int .i64 kind, .string attr, .slice qi ints.length ci, .slice qw words.length cw, .int .i64 lo, .int .i64 hi, .int .i64 op, .slice qk kids.length ck] 31)).alloc (.cells #[.slice qe ev.length ce] 23) = X := ⟨_, rfl⟩
  obtain ⟨x8, xe, bX, sX⟩ := two HX
  obtain ⟨c0, c1, c2, c3, c4, c5, c6, c7⟩ := of8' x8
  have ce0 := of1' xe
  have hgX := heap_lt xe
  have BX := hide bX
  have HE := hide (h3.below bX)
  clear h3 bX
  have hC := contFT ev (w.heap.size + 1) qe ce qk ck kids X (hk.below (unhide BX)) ce0 hgX (unhide HE) ih hc hwt
  clear hk ih
  subst hop
  generalize kids.any (fun x => truN ev x) = r at hC ⊢
  go_enter Try.func74, Try.ntmps74
  go_wp2_with (go_at_call 115; refine hC.mono ?_; rintro e w1 ⟨rfl, b1⟩; have B1 := hide b1; clear b1)
  go_ret
  exact ⟨rfl, below_sub (unhide BX) (unhide B1)⟩
set_option maxRecDepth 100000 in
set_option maxHeartbeats 2000000 in
theorem truth_pred (kind : Int) (attr : ByteArray) (qi : Option Addr) (ci : Nat) (ints : List Int) (qw : Option Addr) (cw : Nat) (words : List ByteArray) (lo hi op : Int) (qk : Option Addr) (ck : Nat) (kids : List Nd) (qe : Option Addr) (ce : Nat) (ev : List Pr) (w : World) (h3 : SlOf encP 4 w qe ce ev) (hop : op = 1) (h1 : SlOf encI 1 w qi ci ints) (h2 : SlOf encS 1 w qw cw words) (l1 : ints.length ≤ 100000000000000) (l2 : words.length ≤ 100000000000000) (l3 : ev.length ≤ 100000000000000) :
    Calls Try.prog 74 #[.agg #[.int .i64 kind, .string attr, .slice qi ints.length ci, .slice qw words.length cw, .int .i64 lo, .int .i64 hi, .int .i64 op, .slice qk kids.length ck], .slice qe ev.length ce] w fun e w' => e = .returned (.bool (holdsB kind attr ints words lo hi ev)) ∧ Below w.heap.size w w' := by
  obtain ⟨X, HX⟩ : ∃ X, (w.alloc (.cells #[.int .i64 kind, .string attr, .slice qi ints.length ci, .slice qw words.length cw, .int .i64 lo, .int .i64 hi, .int .i64 op, .slice qk kids.length ck] 31)).alloc (.cells #[.slice qe ev.length ce] 23) = X := ⟨_, rfl⟩
  obtain ⟨x8, xe, bX, sX⟩ := two HX
  obtain ⟨c0, c1, c2, c3, c4, c5, c6, c7⟩ := of8' x8
  have ce0 := of1' xe
  have hgX := heap_lt xe
  have BX := hide bX
  have HE := hide (h3.below bX)
  clear h3 bX
  have hC := holds_any kind attr qi ci ints qw cw words lo hi qe ce ev X (h1.below (unhide BX)) (h2.below (unhide BX)) (unhide HE) l1 l2 l3
  clear h1 h2
  subst hop
  generalize holdsB kind attr ints words lo hi ev = r at hC ⊢
  go_enter Try.func74, Try.ntmps74
  go_wp2_with (go_at_call 23; refine hC.mono ?_; rintro e w1 ⟨rfl, b1⟩; have B1 := hide b1; clear b1)
  go_ret
  exact ⟨rfl, below_sub (unhide BX) (unhide B1)⟩
set_option maxRecDepth 100000 in
set_option maxHeartbeats 2000000 in
theorem truth_not (kind : Int) (attr : ByteArray) (qi : Option Addr) (ci : Nat) (ints : List Int) (qw : Option Addr) (cw : Nat) (words : List ByteArray) (lo hi op : Int) (qk : Option Addr) (ck : Nat) (kids : List Nd) (qe : Option Addr) (ce : Nat) (ev : List Pr) (w : World) (h3 : SlOf encP 4 w qe ce ev) (x : Nd) (hop : op = 2) (hks : kids = [x]) (hk : NdsOf w qk ck kids) (ih : ∀ x ∈ kids, TruP ev x) (hc : chkL kids = true) (hwt : wtL kids ≤ 1000000000) :
    Calls Try.prog 74 #[.agg #[.int .i64 kind, .string attr, .slice qi ints.length ci, .slice qw words.length cw, .int .i64 lo, .int .i64 hi, .int .i64 op, .slice qk kids.length ck], .slice qe ev.length ce] w fun e w' => e = .returned (.bool (!(truN ev x))) ∧ Below w.heap.size w w' := by
  obtain ⟨X, HX⟩ : ∃ X, (w.alloc (.cells #[.int .i64 kind, .string attr, .slice qi ints.length ci, .slice qw words.length cw, .int .i64 lo, .int .i64 hi, .int .i64 op, .slice qk kids.length ck] 31)).alloc (.cells #[.slice qe ev.length ce] 23) = X := ⟨_, rfl⟩
  obtain ⟨x8, xe, bX, sX⟩ := two HX
  obtain ⟨c0, c1, c2, c3, c4, c5, c6, c7⟩ := of8' x8
  have ce0 := of1' xe
  have hgX := heap_lt xe
  have BX := hide bX
  have HE := hide (h3.below bX)
  clear h3 bX
  subst hks
  obtain ⟨b, off, v, hq, hin, g0, g1, g2, g3, g4, g5, g6, g7⟩ := hk.on (j := 0) rfl (unhide BX)
  subst hq
  rw [Nat.zero_mul, Nat.add_zero] at g0 g1 g2 g3 g4 g5 g6 g7
  have hxm : x ∈ [x] := by simp
  have hC := closF _ v _ _ (w.heap.size + 1) qe X ce0 hgX (fun W hb => ih x hxm v W qe ce (hin.keep hb) ((unhide HE).below hb) (chkL_mem hc hxm) (Nat.le_trans (wtL_mem hxm) hwt))
  simp only [Nv.val] at hC
  clear hk ih hin
  subst hop
  generalize truN ev x = r at hC ⊢
  simp only [List.length_cons, List.length_nil, Nat.zero_add] at c7 HX ⊢
  go_enter Try.func74, Try.ntmps74
  go_wp2_with (go_at_call 114; refine hC.mono ?_; rintro e w1 ⟨rfl, b1⟩; have B1 := hide b1; clear b1)
  go_ret
  exact ⟨rfl, below_sub (unhide BX) (unhide B1)⟩
theorem wtN_parts {kind : Int} {attr : ByteArray} {ints : List Int} {words : List ByteArray} {lo hi op : Int} {kids : List Nd} (h : wtN (.mk kind attr ints words lo hi op kids) ≤ 1000000000) : ints.length ≤ 1000000000 ∧ words.length ≤ 1000000000 ∧ wtL kids ≤ 1000000000 := by
  simp only [wtN] at h
  have := words_len words
  omega
theorem truth_any (ev : List Pr) (l3 : ev.length ≤ 100000000000000) : ∀ t, TruP ev t := by
  intro t
  induction t using Nd.ind with
  | h kind attr ints words lo hi op kids ih =>
    intro v w qe ce hin he hch hwt
    obtain ⟨qi, ci, qw, cw, qk, ck, rfl, h1, h2, hk⟩ := hin.parts
    obtain ⟨l1, l2, l4⟩ := wtN_parts hwt
    simp only [chkN, Bool.and_eq_true] at hch
    obtain ⟨hn, hc⟩ := hch
    simp only [truN, Nv.val]
    unfold nodeB at hn
    by_cases o1 : op = 1
    · rw [if_neg (by omega), if_neg (by omega), if_neg (by omega)]
      exact truth_pred kind attr qi ci ints qw cw words lo hi op qk ck kids qe ce ev w he o1 h1 h2 (by omega) (by omega) l3
    · rw [if_neg o1] at hn
      by_cases o2 : op = 2
      · rw [if_pos o2] at hn
        rw [if_pos o2]
        rw [Bool.and_eq_true] at hn
        obtain ⟨x, rfl⟩ := List.length_eq_one_iff.1 (of_decide_eq_true hn.2)
        simp only [anyT, Bool.or_false]
        exact truth_not kind attr qi ci ints qw cw words lo hi op qk ck [x] qe ce ev w he x o2 rfl hk ih hc l4
      · rw [if_neg o2] at hn
        rw [if_neg o2]
        by_cases o3 : op = 3
        · rw [if_pos o3, allT_eq]
          exact truth_and kind attr qi ci ints qw cw words lo hi op qk ck kids qe ce ev w he o3 hk ih hc l4
        · rw [if_neg o3]
          by_cases o4 : op = 4
          · rw [if_pos o4, anyT_eq]
            exact truth_or kind attr qi ci ints qw cw words lo hi op qk ck kids qe ce ev w he o4 hk ih hc l4
          · rw [if_neg (by omega)] at hn; cases hn
def evalN (ev : List Pr) (t : Nd) : Bool := chkN t && truN ev t
set_option maxRecDepth 100000 in
set_option maxHeartbeats 2000000 in
theorem eval_of (t : Nd) (v : Nv) (qe : Option Addr) (ce : Nat) (ev : List Pr) (w : World)
    (hC : ∀ W, Below w.heap.size w W → Calls Try.prog 54 #[v.val] W fun e w' => e = .returned (.int .i64 (code (chkN t))) ∧ Below W.heap.size W w')
    (hT : chkN t = true → ∀ W, Below w.heap.size w W → Calls Try.prog 74 #[v.val, .slice qe ev.length ce] W fun e w' => e = .returned (.bool (truN ev t)) ∧ Below W.heap.size W w') :
    Calls Try.prog 21 #[v.val, .slice qe ev.length ce] w fun e w' => e = .returned (.bool (evalN ev t)) ∧ Below w.heap.size w w' := by
  unfold evalN
  simp only [Nv.val] at hC hT ⊢
  obtain ⟨X, HX⟩ : ∃ X, w.alloc (.cells #[.int .i64 v.kind, .string v.attr, .slice v.qi v.ni v.ci, .slice v.qw v.nw v.cw, .int .i64 v.lo, .int .i64 v.hi, .int .i64 v.op, .slice v.qk v.nk v.ck] 31) = X := ⟨_, rfl⟩
  have x8 : X.heap[w.heap.size]? = some (.cells #[.int .i64 v.kind, .string v.attr, .slice v.qi v.ni v.ci, .slice v.qw v.nw v.cw, .int .i64 v.lo, .int .i64 v.hi, .int .i64 v.op, .slice v.qk v.nk v.ck] 31 (0, 0)) := by rw [← HX]; exact box_nw _ _
  have bX : Below w.heap.size w X := by rw [← HX]; exact (Below.refl _ _).alloc (Nat.le_refl _) _
  obtain ⟨c0, c1, c2, c3, c4, c5, c6, c7⟩ := of8' x8
  have hC1 := hC X bX
  have X8 := hide x8
  have BX := hide bX
  clear hC x8 bX
  cases hch : chkN t with
  | false =>
    rw [hch] at hC1
    clear hT
    simp only [code, Bool.false_eq_true, if_false] at hC1
    go_enter Try.func21, Try.ntmps21
    go_wp2_with (go_at_call 54; refine hC1.mono ?_; rintro e w1 ⟨rfl, b1⟩; have B1 := hide b1; clear b1)
    go_ret
    exact ⟨rfl, below_sub (unhide BX) (unhide B1)⟩
  | true =>
    rw [hch] at hC1
    have hT1 := hT hch
    clear hT
    simp only [code, if_true] at hC1
    obtain ⟨r, hr⟩ : ∃ r, truN ev t = r := ⟨_, rfl⟩
    rw [hr] at hT1 ⊢
    clear hr
    go_enter Try.func21, Try.ntmps21
    go_wp2_with (first
      | (go_at_call 54; refine hC1.mono ?_; rintro e w1 ⟨rfl, b1⟩; obtain ⟨d0, d1, d2, d3, d4, d5, d6, d7⟩ := of8' ((b1.block _ (heap_lt (unhide X8))).trans (unhide X8)); have B1 := hide (below_sub (unhide BX) b1); clear b1)
      | (go_at_call 74; refine (hT1 _ (unhide B1)).mono ?_; rintro e w2 ⟨rfl, b2⟩; have B2 := hide (below_sub (unhide B1) b2); clear b2))
    go_ret
    exact ⟨ret_bool (by simp), unhide B2⟩
theorem eval_any (t : Nd) (v : Nv) (qe : Option Addr) (ce : Nat) (ev : List Pr) (w : World) (hin : NdIn w v t) (he : SlOf encP 4 w qe ce ev) (hwt : wtN t ≤ 1000000000) (l3 : ev.length ≤ 100000000000000) :
    Calls Try.prog 21 #[v.val, .slice qe ev.length ce] w fun e w' => e = .returned (.bool (evalN ev t)) ∧ Below w.heap.size w w' :=
  eval_of t v qe ce ev w (fun W hb => checkT_any t v W (hin.keep hb) hwt) (fun hc W hb => truth_any ev l3 t v W qe ce (hin.keep hb) (he.below hb) hc hwt)
end Go.Proofs.Ytppkjlmdfcifgaa
