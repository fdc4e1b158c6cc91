/- The reference's Wide, Width, pushed and Pushed. -/
import Derived.Test.YtppkjlmdfcifgaaPushSumsLaw
import Derived.Test.YtppkjlmdfcifgaaPushPlain
import Derived.Test.YtppkjlmdfcifgaaRefCheck
namespace Go.Proofs.Ytppkjlmdfcifgaa
open Go.RowKit Go.Sort

theorem oneI {w : World} {M : Nat} {x : Int} (h : w.heap[M]? = some (.cells #[.int .i64 x] 3 (0, 0))) : SrcK encI 1 w (some ⟨M, 0, none⟩) 1 [x] :=
  (show SlOf encI 1 w (some ⟨M, 0, none⟩) 1 [x] from block_of (l := [x]) h (by rw [flatI_map]; rfl) (by simp)).src
def RWidP (x : Nd) : Prop := ∀ (neg : Bool) (m : Int) (v : Nv) (w : World), NdIn w v x → chkN x = true → wtN x ≤ 1000000000 → Calls Try.prog 96 #[v.val, .bool neg, .int .i64 m] w fun e w' => e = .returned (.int .i64 (widN m (downN x neg))) ∧ Below w.heap.size w w'
set_option maxRecDepth 100000 in
set_option maxHeartbeats 4000000 in
theorem rwid_one (kind : Int) (attr : ByteArray) (qi : Option Addr) (ci : Nat) (ints : List Int) (qw : Option Addr) (cw : Nat) (words : List ByteArray) (lo hi : Int) (qk : Option Addr) (ck : Nat) (kids : List Nd) (neg : Bool) (m : Int) (w : World) :
    Calls Try.prog 96 #[.agg #[.int .i64 kind, .string attr, .slice qi ints.length ci, .slice qw words.length cw, .int .i64 lo, .int .i64 hi, .int .i64 1, .slice qk kids.length ck], .bool neg, .int .i64 m] w fun e w' => e = .returned (.int .i64 1) ∧ Below w.heap.size w w' := by
  go_enter Try.func96, Try.ntmps96
  go_wp2
  go_ret
  exact ⟨rfl, (Below.refl _ _).alloc (Nat.le_refl _) _⟩
set_option maxRecDepth 100000 in
set_option maxHeartbeats 4000000 in
theorem rwid_not (kind : Int) (attr : ByteArray) (qi : Option Addr) (ci : Nat) (ints : List Int) (qw : Option Addr) (cw : Nat) (words : List ByteArray) (lo hi : Int) (qk : Option Addr) (ck : Nat) (x : Nd) (neg : Bool) (m : Int) (w : World) (hk : NdsOf w qk ck [x]) (ih : RWidP x) (hc : chkN x = true) (l3 : wtN x ≤ 1000000000) :
    Calls Try.prog 96 #[.agg #[.int .i64 kind, .string attr, .slice qi ints.length ci, .slice qw words.length cw, .int .i64 lo, .int .i64 hi, .int .i64 2, .slice qk 1 ck], .bool neg, .int .i64 m] w fun e w' => e = .returned (.int .i64 (widN m (downN x (!neg)))) ∧ Below w.heap.size w w' := by
  obtain ⟨X, HX⟩ : ∃ X, w.alloc (.cells #[.int .i64 kind, .string attr, .slice qi ints.length ci, .slice qw words.length cw, .int .i64 lo, .int .i64 hi, .int .i64 2, .slice qk 1 ck] 31) = X := ⟨_, rfl⟩
  have hX0 : X.heap[w.heap.size]? = some (.cells #[.int .i64 kind, .string attr, .slice qi ints.length ci, .slice qw words.length cw, .int .i64 lo, .int .i64 hi, .int .i64 2, .slice qk 1 ck] 31 (0, 0)) := by rw [← HX]; exact box_nw _ _
  have hwX : Below w.heap.size w X := by rw [← HX]; exact (Below.refl _ _).alloc (Nat.le_refl _) _
  obtain ⟨x0, x1, x2, x3, x4, x5, x6, x7⟩ := of8' hX0
  have hz0 := heap_lt hX0
  have HX0 := hide hX0
  have HWX := hide hwX
  obtain ⟨b, off, v, hq, hin, g0, g1, g2, g3, g4, g5, g6, g7⟩ := hk.on (j := 0) (x := x) rfl hwX
  subst hq
  simp only [Nat.zero_mul, Nat.add_zero] at g0 g1 g2 g3 g4 g5 g6 g7
  have hL := ih (!neg) m v X hin hc l3
  simp only [Nv.val] at hL
  clear hk ih hwX hX0 hin
  go_enter Try.func96, Try.ntmps96
  go_wp2_with (go_at_call 96; refine hL.mono ?_; rintro e w1 ⟨rfl, b1⟩; have B1 := hide b1; clear b1)
  go_ret
  exact ⟨rfl, below_sub (unhide HWX) (unhide B1)⟩
set_option maxRecDepth 100000 in
set_option maxHeartbeats 8000000 in
theorem rwid_many (kind : Int) (attr : ByteArray) (qi : Option Addr) (ci : Nat) (ints : List Int) (qw : Option Addr) (cw : Nat) (words : List ByteArray) (lo hi op : Int) (qk : Option Addr) (ck : Nat) (kids : List Nd) (neg : Bool) (m : Int) (w : World) (hk : NdsOf w qk ck kids) (ih : ∀ x ∈ kids, RWidP x) (hc : ∀ x ∈ kids, chkN x = true) (l3 : wtL kids ≤ 1000000000) (ho : op = 3 ∨ op = 4) :
    Calls Try.prog 96 #[.agg #[.int .i64 kind, .string attr, .slice qi ints.length ci, .slice qw words.length cw, .int .i64 lo, .int .i64 hi, .int .i64 op, .slice qk kids.length ck], .bool neg, .int .i64 m] w fun e w' => e = .returned (.int .i64 (if (op = 4) = (neg = true) then prodB m (widL m (downL kids neg)) else sumB m (widL m (downL kids neg)))) ∧ Below w.heap.size w w' := by
  have hlen := Nat.le_trans (Nat.le_trans (len_size kids) (sizeL_wt kids)) l3
  have a0 : (kids.length : Int) ≤ 1000000000 := by omega
  obtain ⟨X, HX⟩ : ∃ X, w.alloc (.cells #[.int .i64 kind, .string attr, .slice qi ints.length ci, .slice qw words.length cw, .int .i64 lo, .int .i64 hi, .int .i64 op, .slice qk kids.length ck] 31) = X := ⟨_, rfl⟩
  have hX0 : X.heap[w.heap.size]? = some (.cells #[.int .i64 kind, .string attr, .slice qi ints.length ci, .slice qw words.length cw, .int .i64 lo, .int .i64 hi, .int .i64 op, .slice qk kids.length ck] 31 (0, 0)) := by rw [← HX]; exact box_nw _ _
  have hwX : Below w.heap.size w X := by rw [← HX]; exact (Below.refl _ _).alloc (Nat.le_refl _) _
  obtain ⟨x0, x1, x2, x3, x4, x5, x6, x7⟩ := of8' hX0
  have hz0 := heap_lt hX0
  have HX0 := hide hX0
  have HWX := hide hwX
  have e1 : (op == 1) = false := by rcases ho with rfl | rfl <;> rfl
  have e2 : (op == 2) = false := by rcases ho with rfl | rfl <;> rfl
  have hS := fun (q : Option Addr) (c : Nat) (W : World) (h : SlOf encI 1 W q c (widL m (downL kids neg))) => refSum_any m q c _ W h (by rw [widL_len, downL_len]; omega)
  have hP := fun (q : Option Addr) (c : Nat) (W : World) (h : SlOf encI 1 W q c (widL m (downL kids neg))) => refProd_any m q c _ W h (by rw [widL_len, downL_len]; omega)
  rw [widL_len, downL_len] at hS hP
  obtain ⟨SS, hSS⟩ : ∃ s, sumB m (widL m (downL kids neg)) = s := ⟨_, rfl⟩
  obtain ⟨PP, hPP⟩ : ∃ s, prodB m (widL m (downL kids neg)) = s := ⟨_, rfl⟩
  rw [hSS] at hS
  rw [hPP] at hP
  rw [hSS, hPP]
  obtain ⟨RR, hRR⟩ : ∃ r, (if (op = 4) = (neg = true) then PP else SS) = r := ⟨_, rfl⟩
  rw [hRR]
  have HRR := hide hRR
  have HK := hide (hk.below hwX)
  have IH := hide ih
  have HC := hide hc
  clear hk ih hc hwX hX0 hSS hPP hRR
  have mapS : ∀ (k : Nat) (x : Nd), kids[k]? = some x → widL m (downL (kids.take (k + 1)) neg) = widL m (downL (kids.take k) neg) ++ [widN m (downN x neg)] := fun k x hx => by
    rw [take_snoc_of hx, downL_map, downL_map, List.map_append, widL_map, widL_map, List.map_append]; rfl
  have HMS := hide mapS
  clear mapS
  cases neg
  · rcases ho with rfl | rfl
    all_goals
      go_enter Try.func96, Try.ntmps96
      go_wp2
      go_loopw [7, 8] (fun o i wr => ∃ (k : Nat) (q : Option Addr) (c : Nat) (ws : List Int), k ≤ kids.length ∧ i = .int .i64 k ∧ o = .slice q k c ∧ ws.length = k ∧ OwnK encI 3 1 X.heap.size wr q c ws ∧ ws = widL m (downL (kids.take k) false) ∧ Below X.heap.size X wr) (fun _ i _ => kids.length - (intOf i).toNat)
      case atStart => exact ⟨0, none, 0, [], by omega, rfl, rfl, rfl, OwnK.nil _ _, rfl, Below.refl _ _⟩
      case round =>
        obtain ⟨k, q, c, ws, hkk, rfl, rfl, hwl, hown, hws, hbel⟩ := hrel
        have HB := hide hbel
        have HO := hide hown
        have HWS := hide hws
        have HWL := hide hwl
        obtain ⟨t0, t1, t2, t3, t4, t5, t6, t7⟩ := of8' ((hbel.block _ hz0).trans (unhide HX0))
        by_cases hlt : k < kids.length
        · obtain ⟨x, hx, hxd⟩ := get_at hlt
          clear hxd
          obtain ⟨b, off, v, hq, hin, g0, g1, g2, g3, g4, g5, g6, g7⟩ := (unhide HK).on hx hbel
          subst hq
          have hxm : x ∈ kids := List.mem_of_getElem? hx
          have hxw := wtL_mem hxm
          have ki0 : (0 : Int) ≤ (k : Int) := by omega
          have ki1 : (k : Int) < (kids.length : Int) := by omega
          have hW := unhide IH x hxm false m v wr hin (unhide HC x hxm) (by omega)
          simp only [Nv.val] at hW
          obtain ⟨n1, hn1⟩ : ∃ n1, widN m (downN x false) = n1 := ⟨_, rfl⟩
          rw [hn1] at hW
          have HSN := hide (unhide HMS k x hx)
          have HN1 := hide hn1
          have sX := hbel.size
          have hkm : k + 1 ≤ maxLen := by unfold maxLen; omega
          have hkb : (k + 1) * 8 ≤ 140737488355328 := by omega
          clear hin hx hxm hown hbel hws hwl hn1
          go_wp2_with (first
            | (go_at_call 96; refine hW.mono ?_; rintro e w2 ⟨rfl, b2⟩; have s2 := b2.size; have B2 := hide b2; clear b2)
            | (at_builtin; refine wpList_app rowI rfl _ _ rfl X.heap.size q c ws (some ⟨w2.heap.size, 0, none⟩) 1 [n1] k 1 (k + 1) (unhide HWL) rfl rfl rfl rfl ((unhide HO).below (below_sub (unhide B2) ((Below.refl _ _).alloc (Nat.le_refl _) _))) (oneI (box_nw _ _)) hkm hkb (by simp only [size_al]; omega) ?_; intro q3 c3 w3 ho3 hb3 _ _; have HO3 := hide ho3; have HB3 := hide hb3; clear ho3 hb3))
          go_roundw
          case rel =>
            refine ⟨k + 1, q3, c3, ws ++ [n1], by omega, by go_num, rfl, by rw [List.length_append, unhide HWL]; rfl, unhide HO3, ?_, ((below_sub (unhide HB) (below_sub (unhide B2) ((Below.refl _ _).alloc (Nat.le_refl _) _))).trans (unhide HB3))⟩
            rw [unhide HSN, unhide HN1, ← unhide HWS]
          case measure => simp [intOf]; omega
        · have hkl : k = kids.length := by omega
          subst hkl
          have ki1 : ¬ (kids.length : Int) < (kids.length : Int) := by omega
          rw [List.take_of_length_le (Nat.le_refl _)] at hws
          subst hws
          have HSL := hide hown.ls
          clear hown hbel hwl
          go_wp2_with (first
            | (go_at_call 45; refine (hS _ _ _ (unhide HSL)).mono ?_; rintro e w4 ⟨rfl, b4⟩; have B4 := hide b4; clear b4)
            | (go_at_call 47; refine (hP _ _ _ (unhide HSL)).mono ?_; rintro e w4 ⟨rfl, b4⟩; have B4 := hide b4; clear b4))
          go_ret
          exact ⟨by rw [← unhide HRR]; simp, below_sub (unhide HWX) (below_sub (unhide HB) (unhide B4))⟩
  · rcases ho with rfl | rfl
    all_goals
      go_enter Try.func96, Try.ntmps96
      go_wp2
      go_loopw [7, 8] (fun o i wr => ∃ (k : Nat) (q : Option Addr) (c : Nat) (ws : List Int), k ≤ kids.length ∧ i = .int .i64 k ∧ o = .slice q k c ∧ ws.length = k ∧ OwnK encI 3 1 X.heap.size wr q c ws ∧ ws = widL m (downL (kids.take k) true) ∧ Below X.heap.size X wr) (fun _ i _ => kids.length - (intOf i).toNat)
      case atStart => exact ⟨0, none, 0, [], by omega, rfl, rfl, rfl, OwnK.nil _ _, rfl, Below.refl _ _⟩
      case round =>
        obtain ⟨k, q, c, ws, hkk, rfl, rfl, hwl, hown, hws, hbel⟩ := hrel
        have HB := hide hbel
        have HO := hide hown
        have HWS := hide hws
        have HWL := hide hwl
        obtain ⟨t0, t1, t2, t3, t4, t5, t6, t7⟩ := of8' ((hbel.block _ hz0).trans (unhide HX0))
        by_cases hlt : k < kids.length
        · obtain ⟨x, hx, hxd⟩ := get_at hlt
          clear hxd
          obtain ⟨b, off, v, hq, hin, g0, g1, g2, g3, g4, g5, g6, g7⟩ := (unhide HK).on hx hbel
          subst hq
          have hxm : x ∈ kids := List.mem_of_getElem? hx
          have hxw := wtL_mem hxm
          have ki0 : (0 : Int) ≤ (k : Int) := by omega
          have ki1 : (k : Int) < (kids.length : Int) := by omega
          have hW := unhide IH x hxm true m v wr hin (unhide HC x hxm) (by omega)
          simp only [Nv.val] at hW
          obtain ⟨n1, hn1⟩ : ∃ n1, widN m (downN x true) = n1 := ⟨_, rfl⟩
          rw [hn1] at hW
          have HSN := hide (unhide HMS k x hx)
          have HN1 := hide hn1
          have sX := hbel.size
          have hkm : k + 1 ≤ maxLen := by unfold maxLen; omega
          have hkb : (k + 1) * 8 ≤ 140737488355328 := by omega
          clear hin hx hxm hown hbel hws hwl hn1
          go_wp2_with (first
            | (go_at_call 96; refine hW.mono ?_; rintro e w2 ⟨rfl, b2⟩; have s2 := b2.size; have B2 := hide b2; clear b2)
            | (at_builtin; refine wpList_app rowI rfl _ _ rfl X.heap.size q c ws (some ⟨w2.heap.size, 0, none⟩) 1 [n1] k 1 (k + 1) (unhide HWL) rfl rfl rfl rfl ((unhide HO).below (below_sub (unhide B2) ((Below.refl _ _).alloc (Nat.le_refl _) _))) (oneI (box_nw _ _)) hkm hkb (by simp only [size_al]; omega) ?_; intro q3 c3 w3 ho3 hb3 _ _; have HO3 := hide ho3; have HB3 := hide hb3; clear ho3 hb3))
          go_roundw
          case rel =>
            refine ⟨k + 1, q3, c3, ws ++ [n1], by omega, by go_num, rfl, by rw [List.length_append, unhide HWL]; rfl, unhide HO3, ?_, ((below_sub (unhide HB) (below_sub (unhide B2) ((Below.refl _ _).alloc (Nat.le_refl _) _))).trans (unhide HB3))⟩
            rw [unhide HSN, unhide HN1, ← unhide HWS]
          case measure => simp [intOf]; omega
        · have hkl : k = kids.length := by omega
          subst hkl
          have ki1 : ¬ (kids.length : Int) < (kids.length : Int) := by omega
          rw [List.take_of_length_le (Nat.le_refl _)] at hws
          subst hws
          have HSL := hide hown.ls
          clear hown hbel hwl
          go_wp2_with (first
            | (go_at_call 45; refine (hS _ _ _ (unhide HSL)).mono ?_; rintro e w4 ⟨rfl, b4⟩; have B4 := hide b4; clear b4)
            | (go_at_call 47; refine (hP _ _ _ (unhide HSL)).mono ?_; rintro e w4 ⟨rfl, b4⟩; have B4 := hide b4; clear b4))
          go_ret
          exact ⟨by rw [← unhide HRR]; simp, below_sub (unhide HWX) (below_sub (unhide HB) (unhide B4))⟩
end Go.Proofs.Ytppkjlmdfcifgaa
