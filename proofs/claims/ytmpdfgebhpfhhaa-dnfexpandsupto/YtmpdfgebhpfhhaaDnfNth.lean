/- The reference's nth: the conjunction at a place of a pushed tree, found by counting. -/
import Derived.Test.YtmpdfgebhpfhhaaRefSums
import Derived.Test.YtmpdfgebhpfhhaaPushPlain
import Derived.Test.YtmpdfgebhpfhhaaRefCheck
namespace Go.Proofs.Ytmpdfgebhpfhhaa
open Go.RowKit Go.Sort

theorem block_ofW {w : World} {M : Nat} {cs : Array Value} {l : List Int} (h : w.heap[M]? = some (.cells cs 3 (0, 0))) (hf : (flatK encI 1 l.toArray).toList = cs.toList) (hl : l.length ≤ 1000) : SlOf encI 1 w (some ⟨M, 0, none⟩) l.length l :=
  ⟨(fun h => by cases h), Nat.le_refl _, by unfold maxLen; omega, fun _ => ⟨M, 0, rfl, heap_lt h, fun j u hj => by rw [Nat.zero_add, Lib.cell_of_heap h]; rw [hf, Array.getElem?_toList] at hj; exact hj⟩⟩
theorem oneI {w : World} {M : Nat} {x : Int} (h : w.heap[M]? = some (.cells #[.int .i64 x] 3 (0, 0))) : SrcK encI 1 w (some ⟨M, 0, none⟩) 1 [x] :=
  (show SlOf encI 1 w (some ⟨M, 0, none⟩) 1 [x] from block_ofW (l := [x]) h (by rw [flatI_map]; rfl) (by simp)).src
def RWidP (x : Nd) : Prop := ∀ (neg : Bool) (m : Int) (v : Nv) (w : World), NdIn w v x → chkN x = true → wtN x ≤ 1000000000 → Calls Try.prog 44 #[v.val, .bool neg, .int .i64 m] w fun e w' => e = .returned (.int .i64 (widN m (downN x neg))) ∧ Below w.heap.size w w'
set_option maxRecDepth 100000 in
set_option maxHeartbeats 4000000 in
theorem rwid_one (kind : Int) (attr : ByteArray) (qi : Option Addr) (ci : Nat) (ints : List Int) (qw : Option Addr) (cw : Nat) (words : List ByteArray) (lo hi : Int) (qk : Option Addr) (ck : Nat) (kids : List Nd) (neg : Bool) (m : Int) (w : World) :
    Calls Try.prog 44 #[.agg #[.int .i64 kind, .string attr, .slice qi ints.length ci, .slice qw words.length cw, .int .i64 lo, .int .i64 hi, .int .i64 1, .slice qk kids.length ck], .bool neg, .int .i64 m] w fun e w' => e = .returned (.int .i64 1) ∧ Below w.heap.size w w' := by
  go_enter Try.func44, Try.ntmps44
  go_wp2
  go_ret
  exact ⟨rfl, (Below.refl _ _).alloc (Nat.le_refl _) _⟩
set_option maxRecDepth 100000 in
set_option maxHeartbeats 4000000 in
theorem rwid_not (kind : Int) (attr : ByteArray) (qi : Option Addr) (ci : Nat) (ints : List Int) (qw : Option Addr) (cw : Nat) (words : List ByteArray) (lo hi : Int) (qk : Option Addr) (ck : Nat) (x : Nd) (neg : Bool) (m : Int) (w : World) (hk : NdsOf w qk ck [x]) (ih : RWidP x) (hc : chkN x = true) (l3 : wtN x ≤ 1000000000) :
    Calls Try.prog 44 #[.agg #[.int .i64 kind, .string attr, .slice qi ints.length ci, .slice qw words.length cw, .int .i64 lo, .int .i64 hi, .int .i64 2, .slice qk 1 ck], .bool neg, .int .i64 m] w fun e w' => e = .returned (.int .i64 (widN m (downN x (!neg)))) ∧ Below w.heap.size w w' := by
  obtain ⟨X, HX⟩ : ∃ X, w.alloc (.cells #[.int .i64 kind, .string attr, .slice qi ints.length ci, .slice qw words.length cw, .int .i64 lo, .int .i64 hi, .int .i64 2, .slice qk 1 ck] 28) = X := ⟨_, rfl⟩
  have hX0 : X.heap[w.heap.size]? = some (.cells #[.int .i64 kind, .string attr, .slice qi ints.length ci, .slice qw words.length cw, .int .i64 lo, .int .i64 hi, .int .i64 2, .slice qk 1 ck] 28 (0, 0)) := by rw [← HX]; exact box_nw _ _
  have hwX : Below w.heap.size w X := by rw [← HX]; exact (Below.refl _ _).alloc (Nat.le_refl _) _
  obtain ⟨x0, x1, x2, x3, x4, x5, x6, x7⟩ := of8' hX0
  have hz0 := heap_lt hX0
  have HX0 := hide hX0
  have HWX := hide hwX
  obtain ⟨b, off, v, hq, hin, g0, g1, g2, g3, g4, g5, g6, g7⟩ := hk.on (j := 0) (x := x) rfl hwX
  subst hq
  simp only [Nat.zero_mul, Nat.add_zero] at g0 g1 g2 g3 g4 g5 g6 g7
  have hL := ih (!neg) m v X hin hc l3
  simp only [Nv.val] at hL
  clear hk ih hwX hX0 hin
  go_enter Try.func44, Try.ntmps44
  go_wp2_with (go_at_call 44; refine hL.mono ?_; rintro e w1 ⟨rfl, b1⟩; have B1 := hide b1; clear b1)
  go_ret
  exact ⟨rfl, below_sub (unhide HWX) (unhide B1)⟩
set_option maxRecDepth 100000 in
set_option maxHeartbeats 8000000 in
theorem rwid_many (kind : Int) (attr : ByteArray) (qi : Option Addr) (ci : Nat) (ints : List Int) (qw : Option Addr) (cw : Nat) (words : List ByteArray) (lo hi op : Int) (qk : Option Addr) (ck : Nat) (kids : List Nd) (neg : Bool) (m : Int) (w : World) (hk : NdsOf w qk ck kids) (ih : ∀ x ∈ kids, RWidP x) (hc : ∀ x ∈ kids, chkN x = true) (l3 : wtL kids ≤ 1000000000) (ho : op = 3 ∨ op = 4) :
    Calls Try.prog 44 #[.agg #[.int .i64 kind, .string attr, .slice qi ints.length ci, .slice qw words.length cw, .int .i64 lo, .int .i64 hi, .int .i64 op, .slice qk kids.length ck], .bool neg, .int .i64 m] w fun e w' => e = .returned (.int .i64 (if (op = 4) = (neg = true) then prodB m (widL m (downL kids neg)) else sumB m (widL m (downL kids neg)))) ∧ Below w.heap.size w w' := by
  have hlen := Nat.le_trans (Nat.le_trans (len_size kids) (sizeL_wt kids)) l3
  have a0 : (kids.length : Int) ≤ 1000000000 := by omega
  obtain ⟨X, HX⟩ : ∃ X, w.alloc (.cells #[.int .i64 kind, .string attr, .slice qi ints.length ci, .slice qw words.length cw, .int .i64 lo, .int .i64 hi, .int .i64 op, .slice qk kids.length ck] 28) = X := ⟨_, rfl⟩
  have hX0 : X.heap[w.heap.size]? = some (.cells #[.int .i64 kind, .string attr, .slice qi ints.length ci, .slice qw words.length cw, .int .i64 lo, .int .i64 hi, .int .i64 op, .slice qk kids.length ck] 28 (0, 0)) := by rw [← HX]; exact box_nw _ _
  have hwX : Below w.heap.size w X := by rw [← HX]; exact (Below.refl _ _).alloc (Nat.le_refl _) _
  obtain ⟨x0, x1, x2, x3, x4, x5, x6, x7⟩ := of8' hX0
  have hz0 := heap_lt hX0
  have HX0 := hide hX0
  have HWX := hide hwX
  have e1 : (op == 1) = false := by rcases ho with rfl | rfl <;> rfl
  have e2 : (op == 2) = false := by rcases ho with rfl | rfl <;> rfl
  have hS := fun (q : Option Addr) (c : Nat) (W : World) (h : SlOf encI 1 W q c (widL m (downL kids neg))) => refSum_any m q c _ W h (by rw [widL_len, downL_len]; omega)
  have hP := fun (q : Option Addr) (c : Nat) (W : World) (h : SlOf encI 1 W q c (widL m (downL kids neg))) => refProd_any m q c _ W h (by rw [widL_len, downL_len]; omega)
  rw [widL_len, downL_len] at hS hP
  obtain ⟨SS, hSS⟩ : ∃ s, sumB m (widL m (downL kids neg)) = s := ⟨_, rfl⟩
  obtain ⟨PP, hPP⟩ : ∃ s, prodB m (widL m (downL kids neg)) = s := ⟨_, rfl⟩
  rw [hSS] at hS
  rw [hPP] at hP
  rw [hSS, hPP]
  obtain ⟨RR, hRR⟩ : ∃ r, (if (op = 4) = (neg = true) then PP else SS) = r := ⟨_, rfl⟩
  rw [hRR]
  have HRR := hide hRR
  have HK := hide (hk.below hwX)
  have IH := hide ih
  have HC := hide hc
  clear hk ih hc hwX hX0 hSS hPP hRR
  have mapS : ∀ (k : Nat) (x : Nd), kids[k]? = some x → widL m (downL (kids.take (k + 1)) neg) = widL m (downL (kids.take k) neg) ++ [widN m (downN x neg)] := fun k x hx => by
    rw [take_snoc_of hx, downL_map, downL_map, List.map_append, widL_map, widL_map, List.map_append]; rfl
  have HMS := hide mapS
  clear mapS
  cases neg
  · rcases ho with rfl | rfl
    all_goals
      go_enter Try.func44, Try.ntmps44
      go_wp2
      go_loopw [7, 8] (fun o i wr => ∃ (k : Nat) (q : Option Addr) (c : Nat) (ws : List Int), k ≤ kids.length ∧ i = .int .i64 k ∧ o = .slice q k c ∧ ws.length = k ∧ OwnK encI 3 1 X.heap.size wr q c ws ∧ ws = widL m (downL (kids.take k) false) ∧ Below X.heap.size X wr) (fun _ i _ => kids.length - (intOf i).toNat)
      case atStart => exact ⟨0, none, 0, [], by omega, rfl, rfl, rfl, OwnK.nil _ _, rfl, Below.refl _ _⟩
      case round =>
        obtain ⟨k, q, c, ws, hkk, rfl, rfl, hwl, hown, hws, hbel⟩ := hrel
        have HB := hide hbel
        have HO := hide hown
        have HWS := hide hws
        have HWL := hide hwl
        obtain ⟨t0, t1, t2, t3, t4, t5, t6, t7⟩ := of8' ((hbel.block _ hz0).trans (unhide HX0))
        by_cases hlt : k < kids.length
        · obtain ⟨x, hx, hxd⟩ := get_at hlt
          clear hxd
          obtain ⟨b, off, v, hq, hin, g0, g1, g2, g3, g4, g5, g6, g7⟩ := (unhide HK).on hx hbel
          subst hq
          have hxm : x ∈ kids := List.mem_of_getElem? hx
          have hxw := wtL_mem hxm
          have ki0 : (0 : Int) ≤ (k : Int) := by omega
          have ki1 : (k : Int) < (kids.length : Int) := by omega
          have hW := unhide IH x hxm false m v wr hin (unhide HC x hxm) (by omega)
          simp only [Nv.val] at hW
          obtain ⟨n1, hn1⟩ : ∃ n1, widN m (downN x false) = n1 := ⟨_, rfl⟩
          rw [hn1] at hW
          have HSN := hide (unhide HMS k x hx)
          have HN1 := hide hn1
          have sX := hbel.size
          have hkm : k + 1 ≤ maxLen := by unfold maxLen; omega
          have hkb : (k + 1) * 8 ≤ 140737488355328 := by omega
          clear hin hx hxm hown hbel hws hwl hn1
          go_wp2_with (first
            | (go_at_call 44; refine hW.mono ?_; rintro e w2 ⟨rfl, b2⟩; have s2 := b2.size; have B2 := hide b2; clear b2)
            | (at_builtin; refine wpList_app rowI rfl _ _ rfl X.heap.size q c ws (some ⟨w2.heap.size, 0, none⟩) 1 [n1] k 1 (k + 1) (unhide HWL) rfl rfl rfl rfl ((unhide HO).below (below_sub (unhide B2) ((Below.refl _ _).alloc (Nat.le_refl _) _))) (oneI (box_nw _ _)) hkm hkb (by simp only [size_al]; omega) ?_; intro q3 c3 w3 ho3 hb3 _ _; have HO3 := hide ho3; have HB3 := hide hb3; clear ho3 hb3))
          go_roundw
          case rel =>
            refine ⟨k + 1, q3, c3, ws ++ [n1], by omega, by go_num, rfl, by rw [List.length_append, unhide HWL]; rfl, unhide HO3, ?_, ((below_sub (unhide HB) (below_sub (unhide B2) ((Below.refl _ _).alloc (Nat.le_refl _) _))).trans (unhide HB3))⟩
            rw [unhide HSN, unhide HN1, ← unhide HWS]
          case measure => simp [intOf]; omega
        · have hkl : k = kids.length := by omega
          subst hkl
          have ki1 : ¬ (kids.length : Int) < (kids.length : Int) := by omega
          rw [List.take_of_length_le (Nat.le_refl _)] at hws
          subst hws
          have HSL := hide hown.ls
          clear hown hbel hwl
          go_wp2_with (first
            | (go_at_call 65; refine (hS _ _ _ (unhide HSL)).mono ?_; rintro e w4 ⟨rfl, b4⟩; have B4 := hide b4; clear b4)
            | (go_at_call 66; refine (hP _ _ _ (unhide HSL)).mono ?_; rintro e w4 ⟨rfl, b4⟩; have B4 := hide b4; clear b4))
          go_ret
          exact ⟨by rw [← unhide HRR]; simp, below_sub (unhide HWX) (below_sub (unhide HB) (unhide B4))⟩
  · rcases ho with rfl | rfl
    all_goals
      go_enter Try.func44, Try.ntmps44
      go_wp2
      go_loopw [7, 8] (fun o i wr => ∃ (k : Nat) (q : Option Addr) (c : Nat) (ws : List Int), k ≤ kids.length ∧ i = .int .i64 k ∧ o = .slice q k c ∧ ws.length = k ∧ OwnK encI 3 1 X.heap.size wr q c ws ∧ ws = widL m (downL (kids.take k) true) ∧ Below X.heap.size X wr) (fun _ i _ => kids.length - (intOf i).toNat)
      case atStart => exact ⟨0, none, 0, [], by omega, rfl, rfl, rfl, OwnK.nil _ _, rfl, Below.refl _ _⟩
      case round =>
        obtain ⟨k, q, c, ws, hkk, rfl, rfl, hwl, hown, hws, hbel⟩ := hrel
        have HB := hide hbel
        have HO := hide hown
        have HWS := hide hws
        have HWL := hide hwl
        obtain ⟨t0, t1, t2, t3, t4, t5, t6, t7⟩ := of8' ((hbel.block _ hz0).trans (unhide HX0))
        by_cases hlt : k < kids.length
        · obtain ⟨x, hx, hxd⟩ := get_at hlt
          clear hxd
          obtain ⟨b, off, v, hq, hin, g0, g1, g2, g3, g4, g5, g6, g7⟩ := (unhide HK).on hx hbel
          subst hq
          have hxm : x ∈ kids := List.mem_of_getElem? hx
          have hxw := wtL_mem hxm
          have ki0 : (0 : Int) ≤ (k : Int) := by omega
          have ki1 : (k : Int) < (kids.length : Int) := by omega
          have hW := unhide IH x hxm true m v wr hin (unhide HC x hxm) (by omega)
          simp only [Nv.val] at hW
          obtain ⟨n1, hn1⟩ : ∃ n1, widN m (downN x true) = n1 := ⟨_, rfl⟩
          rw [hn1] at hW
          have HSN := hide (unhide HMS k x hx)
          have HN1 := hide hn1
          have sX := hbel.size
          have hkm : k + 1 ≤ maxLen := by unfold maxLen; omega
          have hkb : (k + 1) * 8 ≤ 140737488355328 := by omega
          clear hin hx hxm hown hbel hws hwl hn1
          go_wp2_with (first
            | (go_at_call 44; refine hW.mono ?_; rintro e w2 ⟨rfl, b2⟩; have s2 := b2.size; have B2 := hide b2; clear b2)
            | (at_builtin; refine wpList_app rowI rfl _ _ rfl X.heap.size q c ws (some ⟨w2.heap.size, 0, none⟩) 1 [n1] k 1 (k + 1) (unhide HWL) rfl rfl rfl rfl ((unhide HO).below (below_sub (unhide B2) ((Below.refl _ _).alloc (Nat.le_refl _) _))) (oneI (box_nw _ _)) hkm hkb (by simp only [size_al]; omega) ?_; intro q3 c3 w3 ho3 hb3 _ _; have HO3 := hide ho3; have HB3 := hide hb3; clear ho3 hb3))
          go_roundw
          case rel =>
            refine ⟨k + 1, q3, c3, ws ++ [n1], by omega, by go_num, rfl, by rw [List.length_append, unhide HWL]; rfl, unhide HO3, ?_, ((below_sub (unhide HB) (below_sub (unhide B2) ((Below.refl _ _).alloc (Nat.le_refl _) _))).trans (unhide HB3))⟩
            rw [unhide HSN, unhide HN1, ← unhide HWS]
          case measure => simp [intOf]; omega
        · have hkl : k = kids.length := by omega
          subst hkl
          have ki1 : ¬ (kids.length : Int) < (kids.length : Int) := by omega
          rw [List.take_of_length_le (Nat.le_refl _)] at hws
          subst hws
          have HSL := hide hown.ls
          clear hown hbel hwl
          go_wp2_with (first
            | (go_at_call 65; refine (hS _ _ _ (unhide HSL)).mono ?_; rintro e w4 ⟨rfl, b4⟩; have B4 := hide b4; clear b4)
            | (go_at_call 66; refine (hP _ _ _ (unhide HSL)).mono ?_; rintro e w4 ⟨rfl, b4⟩; have B4 := hide b4; clear b4))
          go_ret
          exact ⟨by rw [← unhide HRR]; simp, below_sub (unhide HWX) (below_sub (unhide HB) (unhide B4))⟩
end Go.Proofs.Ytmpdfgebhpfhhaa
namespace Go.Proofs.Ytmpdfgebhpfhhaa
open Go.RowKit Go.Sort

theorem rwid_any : ∀ x, RWidP x := by
  intro t
  induction t using Nd.ind with
  | h kind attr ints words lo hi op kids ih =>
    intro neg m v w hin hc hwt
    obtain ⟨qi, ci, qw, cw, qk, ck, rfl, h1, h2, hk⟩ := hin.parts
    simp only [wtN] at hwt
    rcases chk_parts hc with ⟨rfl, rfl, _⟩ | ⟨rfl, ⟨x, rfl, hx⟩, _⟩ | ⟨ho, _, hl, _⟩
    · have := rwid_one kind attr qi ci ints qw cw words lo hi qk ck [] neg m w
      have e : widN m (downN (.mk kind attr ints words lo hi 1 []) neg) = 1 := by cases neg <;> simp [downN, litT, notT, widN]
      rw [e]; simpa only [Nv.val] using this
    · have := rwid_not kind attr qi ci ints qw cw words lo hi qk ck x neg m w hk (ih x (by simp)) hx (by simp only [wtL] at hwt; omega)
      simpa [downN, downH, Nv.val] using this
    · have := rwid_many kind attr qi ci ints qw cw words lo hi op qk ck kids neg m w hk ih (chkL_all hl) (by omega) ho
      rw [down_34 ho]
      have e : widN m (.mk 0 ⟨#[]⟩ [] [] 0 0 (if neg = true then otherI op else op) (downL kids neg)) = (if (op = 4) = (neg = true) then prodB m (widL m (downL kids neg)) else sumB m (widL m (downL kids neg))) := by
        rcases ho with rfl | rfl <;> cases neg <;> simp [widN, otherI]
      rw [e]; simpa only [Nv.val] using this
set_option maxRecDepth 100000 in
set_option maxHeartbeats 4000000 in
theorem refWidth_any (x : Nd) (m : Int) (v : Nv) (w : World) (hin : NdIn w v x) (hwt : wtN x ≤ 1000000000) :
    Calls Try.prog 22 #[.agg #[.int .i64 v.kind, .string v.attr, .slice v.qi v.ni v.ci, .slice v.qw v.nw v.cw, .int .i64 v.lo, .int .i64 v.hi, .int .i64 v.op, .slice v.qk v.nk v.ck], .int .i64 m] w fun e w' => e = .returned (.tuple #[.int .i64 (WidthA x m), .int .i64 (WidthE x m)]) ∧ Below w.heap.size w w' := by
  obtain ⟨X, HX⟩ : ∃ X, w.alloc (.cells #[.int .i64 v.kind, .string v.attr, .slice v.qi v.ni v.ci, .slice v.qw v.nw v.cw, .int .i64 v.lo, .int .i64 v.hi, .int .i64 v.op, .slice v.qk v.nk v.ck] 28) = X := ⟨_, rfl⟩
  have hX0 : X.heap[w.heap.size]? = some (.cells #[.int .i64 v.kind, .string v.attr, .slice v.qi v.ni v.ci, .slice v.qw v.nw v.cw, .int .i64 v.lo, .int .i64 v.hi, .int .i64 v.op, .slice v.qk v.nk v.ck] 28 (0, 0)) := by rw [← HX]; exact box_nw _ _
  have hwX : Below w.heap.size w X := by rw [← HX]; exact (Below.refl _ _).alloc (Nat.le_refl _) _
  obtain ⟨x0, x1, x2, x3, x4, x5, x6, x7⟩ := of8' hX0
  have hz0 := heap_lt hX0
  have HX0 := hide hX0
  have HWX := hide hwX
  have hR := rchk_any x v X (hin.keep hwX) hwt
  simp only [Nv.val] at hR
  unfold WidthA WidthE
  cases hx : chkN x
  · rw [hx] at hR
    simp only [Bool.false_eq_true, if_false]
    clear hin hwX hX0 hx
    go_enter Try.func22, Try.ntmps22
    go_wp2_with (go_at_call 43; refine hR.mono ?_; rintro e w1 ⟨rfl, b1⟩; have B1 := hide b1; clear b1)
    refine bodyPost_ret (v := .tuple #[.int .i64 0, .int .i64 1]) (by simp [results, Try.results22, go_sem]) rfl ⟨rfl, below_sub (unhide HWX) (unhide B1)⟩
  · rw [hx] at hR
    simp only [if_true]
    have hW := fun (W : World) (hW : Below X.heap.size X W) => rwid_any x false m v W ((hin.keep hwX).keep hW) hx hwt
    simp only [Nv.val] at hW
    clear hin hwX hX0 hx
    by_cases hm : 1 ≤ m ∧ m ≤ 64
    · rw [if_pos hm, if_pos hm]
      obtain ⟨m1, m2⟩ := hm
      have f1 : ¬ m < 1 := by omega
      have f2 : ¬ 64 < m := by omega
      go_enter Try.func22, Try.ntmps22
      go_wp2_with (first
        | (go_at_call 43; refine hR.mono ?_; rintro e w1 ⟨rfl, b1⟩; obtain ⟨s0, s1, s2, s3, s4, s5, s6, s7⟩ := of8' ((b1.block _ hz0).trans (unhide HX0)); have B1 := hide b1; clear b1)
        | (go_at_call 44; refine (hW _ (unhide B1)).mono ?_; rintro e w2 ⟨rfl, b2⟩; have B2 := hide (below_sub (unhide B1) b2); clear b2))
      refine bodyPost_ret (v := .tuple #[.int .i64 (widN m (downN x false)), .int .i64 0]) (by simp [results, Try.results22, go_sem]) rfl ⟨rfl, below_sub (unhide HWX) (unhide B2)⟩
    · rw [if_neg hm, if_neg hm]
      by_cases f1 : m < 1
      · clear hm
        go_enter Try.func22, Try.ntmps22
        go_wp2_with (go_at_call 43; refine hR.mono ?_; rintro e w1 ⟨rfl, b1⟩; have B1 := hide b1; clear b1)
        refine bodyPost_ret (v := .tuple #[.int .i64 0, .int .i64 2]) (by simp [results, Try.results22, go_sem]) rfl ⟨rfl, below_sub (unhide HWX) (unhide B1)⟩
      · have f2 : 64 < m := by omega
        clear hm
        go_enter Try.func22, Try.ntmps22
        go_wp2_with (go_at_call 43; refine hR.mono ?_; rintro e w1 ⟨rfl, b1⟩; have B1 := hide b1; clear b1)
        refine bodyPost_ret (v := .tuple #[.int .i64 0, .int .i64 2]) (by simp [results, Try.results22, go_sem]) rfl ⟨rfl, below_sub (unhide HWX) (unhide B1)⟩
end Go.Proofs.Ytmpdfgebhpfhhaa
namespace Go.Proofs.Ytmpdfgebhpfhhaa
open Go.RowKit Go.Sort

/-- Literals whose lists lie in the world w0. -/
def LitsB (w0 : World) (us : List Lv) (c : List Lt) : Prop := ∀ (j : Nat) (u : Lv) (l : Lt), us[j]? = some u → c[j]? = some l → LitIn w0 u l
theorem LitsB.app {w0 : World} {a b : List Lv} {c d : List Lt} (h : LitsB w0 a c) (k : LitsB w0 b d) (hl : a.length = c.length) : LitsB w0 (a ++ b) (c ++ d) := fun j u l hj hc => by
  by_cases hlt : j < a.length
  · rw [List.getElem?_append_left hlt] at hj
    rw [List.getElem?_append_left (by omega)] at hc
    exact h j u l hj hc
  · rw [List.getElem?_append_right (by omega)] at hj
    rw [List.getElem?_append_right (by omega), ← hl] at hc
    exact k _ u l hj hc
def SlFrom (B : Nat) (w : World) (q : Option Addr) (c : Nat) (us : List Lv) : Prop := SlOf encL 7 w q c us ∧ ∀ a, q = some a → B ≤ a.block
theorem slFrom_off {B B' : Nat} {W : World} {q : Option Addr} {c : Nat} {us : List Lv} {g : Option Nat} (h : SlFrom B' W q c us) (hB : B ≤ B') (hg : ∀ b, g = some b → b < B') : OffP B (fun x => SlOf encL 7 x q c us) g W := fun x hs hc => h.1.up h.2 ⟨hs, fun b o hb hlt => hc b o (by omega) hlt fun e => by have := hg b e.symm; omega⟩
def NthEnd (w0 : World) (c : List Lt) (w : World) (e : Ending) (w' : World) : Prop := (∃ q' c' us, e = .returned (.slice q' c.length c') ∧ us.length = c.length ∧ SlFrom w.heap.size w' q' c' us ∧ LitsB w0 us c) ∧ Below w.heap.size w w'
def NthP (x : Nd) : Prop := ∀ (w0 w : World) (v : Nv) (i : Nat) (c : List Lt), NdIn w0 v x → Below w0.heap.size w0 w → chkN x = true → atN x = true → wtN x ≤ 400000000 → (cjN x).length ≤ 64 → (cjN x)[i]? = some c → Calls Try.prog 24 #[v.val, .int .i64 i] w (NthEnd w0 c w)
def PartsAt (w0 : World) (ps : List (List Lt)) (us : List (Option Addr × Nat × Nat)) (x : World) : Prop := ∀ (j : Nat) (u : Option Addr × Nat × Nat) (ls : List Lt), us[j]? = some u → ps[j]? = some ls → u.2.1 = ls.length ∧ ∃ ks : List Lv, ks.length = ls.length ∧ SlOf encL 7 x u.1 u.2.2 ks ∧ LitsB w0 ks ls
theorem parts_snoc {w0 x : World} {ps : List (List Lt)} {us : List (Option Addr × Nat × Nat)} {d : List Lt} {u : Option Addr × Nat × Nat} {ks : List Lv} (hl : us.length = ps.length) (h : PartsAt w0 ps us x) (hu : u.2.1 = d.length) (hk : ks.length = d.length) (hs : SlOf encL 7 x u.1 u.2.2 ks) (hb : LitsB w0 ks d) : PartsAt w0 (ps ++ [d]) (us ++ [u]) x := fun j y ls hj hp => by
  by_cases hlt : j < us.length
  · rw [List.getElem?_append_left hlt] at hj
    rw [List.getElem?_append_left (by omega)] at hp
    exact h j y ls hj hp
  · have hj2 := (List.getElem?_eq_some_iff.1 hj).1
    rw [List.length_append, List.length_singleton] at hj2
    obtain rfl : j = us.length := by omega
    rw [List.getElem?_append_right (by omega), Nat.sub_self] at hj
    rw [hl, List.getElem?_append_right (by omega), Nat.sub_self] at hp
    cases hj; cases hp
    exact ⟨hu, ks, hk, hs, hb⟩
theorem lit_sl (W : World) (u : Lv) : SlOf encL 7 (W.alloc (.cells #[.int .i64 u.kind, .string u.attr, .slice u.qi u.ni u.ci, .slice u.qw u.nw u.cw, .int .i64 u.lo, .int .i64 u.hi, .bool u.neg] 47)) (some ⟨W.heap.size, 0, none⟩) 1 [u] := by
  have hb := box_nw W (.cells #[.int .i64 u.kind, .string u.attr, .slice u.qi u.ni u.ci, .slice u.qw u.nw u.cw, .int .i64 u.lo, .int .i64 u.hi, .bool u.neg] 47)
  obtain ⟨h0, h1, h2, h3, h4, h5, h6⟩ := of7' hb
  refine ⟨fun h => (by cases h), Nat.le_refl _, by decide, LsOf.one (by rw [size_al]; omega) fun c hc => ?_⟩
  have : c = 0 ∨ c = 1 ∨ c = 2 ∨ c = 3 ∨ c = 4 ∨ c = 5 ∨ c = 6 := by omega
  rcases this with rfl | rfl | rfl | rfl | rfl | rfl | rfl
  · exact h0
  · exact h1
  · exact h2
  · exact h3
  · exact h4
  · exact h5
  · exact h6
theorem one_lit {w0 W : World} {u : Lv} {l : Lt} {B : Nat} (h : LitIn w0 u l) (hB : B ≤ W.heap.size) : ([u] : List Lv).length = [l].length ∧ SlFrom B (W.alloc (.cells #[.int .i64 u.kind, .string u.attr, .slice u.qi u.ni u.ci, .slice u.qw u.nw u.cw, .int .i64 u.lo, .int .i64 u.hi, .bool u.neg] 47)) (some ⟨W.heap.size, 0, none⟩) 1 [u] ∧ LitsB w0 [u] [l] := by
  refine ⟨rfl, ⟨lit_sl W u, fun a ha => by cases ha; exact hB⟩, fun j x y hj hy => ?_⟩
  cases j with
  | zero => simp at hj hy; subst hj; subst hy; exact h
  | succ j => simp at hj
theorem wide_len {x : Nd} (hc : chkN x = true) (ha : atN x = true) (h : (cjN x).length ≤ 64) : widN 64 (downN x false) = ((cjN x).length : Nat) ∧ 1 ≤ (cjN x).length := by
  have h1 := wid_min (m := 64) (by decide) (by decide) x hc
  have h2 := (cj_all [] x hc ha).1
  rw [down_id x hc ha, h1.1]
  have := h1.2
  constructor <;> omega
theorem prod_mem {l : List Nd} {x : Nd} (h : x ∈ l) (h0 : 0 < (cjProd l).length) : (cjN x).length ≤ (cjProd l).length := by
  induction l with
  | nil => simp at h
  | cons y l ih =>
    simp only [cjProd, cross_len] at h0 ⊢
    have hp := Nat.pos_of_mul_pos_left h0
    have hq := Nat.pos_of_mul_pos_right h0
    rcases List.mem_cons.1 h with rfl | h
    · first | exact Nat.le_mul_of_pos_right _ hp | exact Nat.le_mul_of_pos_right _ hq
    · refine Nat.le_trans (ih h (by first | exact hp | exact hq)) ?_
      first | exact Nat.le_mul_of_pos_left _ hq | exact Nat.le_mul_of_pos_left _ hp
def Kid8 (w : World) (b o : Nat) (v : Nv) : Prop := w.cell? ⟨b, o, none⟩ = some (.int .i64 v.kind) ∧ w.cell? ⟨b, o + 1, none⟩ = some (.string v.attr) ∧ w.cell? ⟨b, o + 2, none⟩ = some (.slice v.qi v.ni v.ci) ∧ w.cell? ⟨b, o + 3, none⟩ = some (.slice v.qw v.nw v.cw) ∧ w.cell? ⟨b, o + 4, none⟩ = some (.int .i64 v.lo) ∧ w.cell? ⟨b, o + 5, none⟩ = some (.int .i64 v.hi) ∧ w.cell? ⟨b, o + 6, none⟩ = some (.int .i64 v.op) ∧ w.cell? ⟨b, o + 7, none⟩ = some (.slice v.qk v.nk v.ck)
theorem Kid8.keep {w w' : World} {b o : Nat} {v : Nv} (h : Kid8 w b o v) (hlt : b < w.heap.size) (hb : Below w.heap.size w w') : Kid8 w' b o v := by
  obtain ⟨h0, h1, h2, h3, h4, h5, h6, h7⟩ := h
  exact ⟨(hb.cell hlt).trans h0, (hb.cell hlt).trans h1, (hb.cell hlt).trans h2, (hb.cell hlt).trans h3, (hb.cell hlt).trans h4, (hb.cell hlt).trans h5, (hb.cell hlt).trans h6, (hb.cell hlt).trans h7⟩
theorem Kid8.grown {w w' : World} {b o : Nat} {v : Nv} {g : Option Nat} (h : Kid8 w b o v) (hlt : b < w.heap.size) (hb : w.grownBy w' g) (hg : some b ≠ g) : Kid8 w' b o v := by
  obtain ⟨h0, h1, h2, h3, h4, h5, h6, h7⟩ := h
  exact ⟨(hb.cell_far _ hlt hg).trans h0, (hb.cell_far _ hlt hg).trans h1, (hb.cell_far _ hlt hg).trans h2, (hb.cell_far _ hlt hg).trans h3, (hb.cell_far _ hlt hg).trans h4, (hb.cell_far _ hlt hg).trans h5, (hb.cell_far _ hlt hg).trans h6, (hb.cell_far _ hlt hg).trans h7⟩
set_option maxRecDepth 100000 in
set_option maxHeartbeats 4000000 in
theorem nth_one (kind : Int) (attr : ByteArray) (qi : Option Addr) (ci : Nat) (ints : List Int) (qw : Option Addr) (cw : Nat) (words : List ByteArray) (lo hi : Int) (qk : Option Addr) (ck : Nat) (i : Nat) (w0 w : World) (hb0 : Below w0.heap.size w0 w) (h1 : SlOf encI 1 w0 qi ci ints) (h2 : SlOf encS 1 w0 qw cw words) :
    Calls Try.prog 24 #[.agg #[.int .i64 kind, .string attr, .slice qi ints.length ci, .slice qw words.length cw, .int .i64 lo, .int .i64 hi, .int .i64 1, .slice qk 0 ck], .int .i64 i] w (NthEnd w0 [⟨kind, attr, ints, words, lo, hi, false⟩] w) := by
  obtain ⟨X, HX⟩ : ∃ X, w.alloc (.cells #[.int .i64 kind, .string attr, .slice qi ints.length ci, .slice qw words.length cw, .int .i64 lo, .int .i64 hi, .int .i64 1, .slice qk 0 ck] 28) = X := ⟨_, rfl⟩
  have hX0 : X.heap[w.heap.size]? = some (.cells #[.int .i64 kind, .string attr, .slice qi ints.length ci, .slice qw words.length cw, .int .i64 lo, .int .i64 hi, .int .i64 1, .slice qk 0 ck] 28 (0, 0)) := by rw [← HX]; exact box_nw _ _
  have hwX : Below w.heap.size w X := by rw [← HX]; exact (Below.refl _ _).alloc (Nat.le_refl _) _
  obtain ⟨x0, x1, x2, x3, x4, x5, x6, x7⟩ := of8' hX0
  have hz0 := heap_lt hX0
  have HX0 := hide hX0
  have HWX := hide hwX
  have b0X := hb0.trans (hwX.mono hb0.size)
  have HB0 := hide b0X
  have HE := hide (one_lit (W := X) (B := w.heap.size) (show LitIn w0 ⟨kind, attr, qi, ints.length, ci, qw, words.length, cw, lo, hi, false⟩ ⟨kind, attr, ints, words, lo, hi, false⟩ from ⟨rfl, rfl, rfl, rfl, rfl, rfl, rfl, h1, h2⟩) hwX.size)
  clear hwX hX0 b0X hb0 h1 h2
  go_enter Try.func24, Try.ntmps24
  go_wp2
  go_ret
  exact ⟨⟨_, _, _, rfl, unhide HE⟩, (unhide HWX).alloc (unhide HWX).size _⟩
set_option maxRecDepth 100000 in
set_option maxHeartbeats 4000000 in
theorem nth_not (kind : Int) (attr : ByteArray) (qi : Option Addr) (ci : Nat) (ints : List Int) (qw : Option Addr) (cw : Nat) (words : List ByteArray) (lo hi : Int) (qk : Option Addr) (ck : Nat) (k2 : Int) (a2 : ByteArray) (i2 : List Int) (w2 : List ByteArray) (l2 h2' o2 : Int) (ks2 : List Nd) (i : Nat) (w0 w : World) (hb0 : Below w0.heap.size w0 w) (hk : NdsOf w0 qk ck [.mk k2 a2 i2 w2 l2 h2' o2 ks2]) :
    Calls Try.prog 24 #[.agg #[.int .i64 kind, .string attr, .slice qi ints.length ci, .slice qw words.length cw, .int .i64 lo, .int .i64 hi, .int .i64 2, .slice qk 1 ck], .int .i64 i] w (NthEnd w0 [⟨k2, a2, i2, w2, l2, h2', true⟩] w) := by
  obtain ⟨X, HX⟩ : ∃ X, w.alloc (.cells #[.int .i64 kind, .string attr, .slice qi ints.length ci, .slice qw words.length cw, .int .i64 lo, .int .i64 hi, .int .i64 2, .slice qk 1 ck] 28) = X := ⟨_, rfl⟩
  have hX0 : X.heap[w.heap.size]? = some (.cells #[.int .i64 kind, .string attr, .slice qi ints.length ci, .slice qw words.length cw, .int .i64 lo, .int .i64 hi, .int .i64 2, .slice qk 1 ck] 28 (0, 0)) := by rw [← HX]; exact box_nw _ _
  have hwX : Below w.heap.size w X := by rw [← HX]; exact (Below.refl _ _).alloc (Nat.le_refl _) _
  obtain ⟨x0, x1, x2, x3, x4, x5, x6, x7⟩ := of8' hX0
  have hz0 := heap_lt hX0
  have HX0 := hide hX0
  have HWX := hide hwX
  have b0X := hb0.trans (hwX.mono hb0.size)
  have HB0 := hide b0X
  obtain ⟨b, off, u, hq, hin, g0, g1, g2, g3, g4, g5, g6, g7⟩ := hk.on2 (j := 0) rfl b0X
  subst hq
  obtain ⟨qi2, ci2, qw2, cw2, qk2, ck2, rfl, e1, e2, _⟩ := hin.parts
  simp only [Nat.zero_mul, Nat.add_zero] at g0 g1 g2 g3 g4 g5 g6 g7
  have HE := hide (one_lit (W := X) (B := w.heap.size) (show LitIn w0 ⟨k2, a2, qi2, i2.length, ci2, qw2, w2.length, cw2, l2, h2', true⟩ ⟨k2, a2, i2, w2, l2, h2', true⟩ from ⟨rfl, rfl, rfl, rfl, rfl, rfl, rfl, e1, e2⟩) hwX.size)
  clear hwX hX0 b0X hb0 hk hin e1 e2
  go_enter Try.func24, Try.ntmps24
  go_wp2
  go_ret
  exact ⟨⟨_, _, _, rfl, unhide HE⟩, (unhide HWX).alloc (unhide HWX).size _⟩

end Go.Proofs.Ytmpdfgebhpfhhaa
