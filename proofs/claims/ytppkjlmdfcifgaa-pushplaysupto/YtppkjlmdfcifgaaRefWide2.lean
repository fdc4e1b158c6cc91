/- The reference's Width, pushed and Pushed of any tree. -/
import Derived.Test.YtppkjlmdfcifgaaRefWide
namespace Go.Proofs.Ytppkjlmdfcifgaa
open Go.RowKit Go.Sort

theorem rwid_any : ∀ x, RWidP x := by
  intro t
  induction t using Nd.ind with
  | h kind attr ints words lo hi op kids ih =>
    intro neg m v w hin hc hwt
    obtain ⟨qi, ci, qw, cw, qk, ck, rfl, h1, h2, hk⟩ := hin.parts
    simp only [wtN] at hwt
    rcases chk_parts hc with ⟨rfl, rfl, _⟩ | ⟨rfl, ⟨x, rfl, hx⟩, _⟩ | ⟨ho, _, hl, _⟩
    · have := rwid_one kind attr qi ci ints qw cw words lo hi qk ck [] neg m w
      have e : widN m (downN (.mk kind attr ints words lo hi 1 []) neg) = 1 := by cases neg <;> simp [downN, litT, notT, widN]
      rw [e]; simpa only [Nv.val] using this
    · have := rwid_not kind attr qi ci ints qw cw words lo hi qk ck x neg m w hk (ih x (by simp)) hx (by simp only [wtL] at hwt; omega)
      simpa [downN, downH, Nv.val] using this
    · have := rwid_many kind attr qi ci ints qw cw words lo hi op qk ck kids neg m w hk ih (chkL_all hl) (by omega) ho
      rw [down_34 ho]
      have e : widN m (.mk 0 ⟨#[]⟩ [] [] 0 0 (if neg = true then otherI op else op) (downL kids neg)) = (if (op = 4) = (neg = true) then prodB m (widL m (downL kids neg)) else sumB m (widL m (downL kids neg))) := by
        rcases ho with rfl | rfl <;> cases neg <;> simp [widN, otherI]
      rw [e]; simpa only [Nv.val] using this
set_option maxRecDepth 100000 in
set_option maxHeartbeats 4000000 in
theorem refWidth_any (x : Nd) (m : Int) (v : Nv) (w : World) (hin : NdIn w v x) (hwt : wtN x ≤ 1000000000) :
    Calls Try.prog 39 #[.agg #[.int .i64 v.kind, .string v.attr, .slice v.qi v.ni v.ci, .slice v.qw v.nw v.cw, .int .i64 v.lo, .int .i64 v.hi, .int .i64 v.op, .slice v.qk v.nk v.ck], .int .i64 m] w fun e w' => e = .returned (.tuple #[.int .i64 (WidthA x m), .int .i64 (WidthE x m)]) ∧ Below w.heap.size w w' := by
  obtain ⟨X, HX⟩ : ∃ X, w.alloc (.cells #[.int .i64 v.kind, .string v.attr, .slice v.qi v.ni v.ci, .slice v.qw v.nw v.cw, .int .i64 v.lo, .int .i64 v.hi, .int .i64 v.op, .slice v.qk v.nk v.ck] 31) = X := ⟨_, rfl⟩
  have hX0 : X.heap[w.heap.size]? = some (.cells #[.int .i64 v.kind, .string v.attr, .slice v.qi v.ni v.ci, .slice v.qw v.nw v.cw, .int .i64 v.lo, .int .i64 v.hi, .int .i64 v.op, .slice v.qk v.nk v.ck] 31 (0, 0)) := by rw [← HX]; exact box_nw _ _
  have hwX : Below w.heap.size w X := by rw [← HX]; exact (Below.refl _ _).alloc (Nat.le_refl _) _
  obtain ⟨x0, x1, x2, x3, x4, x5, x6, x7⟩ := of8' hX0
  have hz0 := heap_lt hX0
  have HX0 := hide hX0
  have HWX := hide hwX
  have hR := rchk_any x v X (hin.keep hwX) hwt
  simp only [Nv.val] at hR
  unfold WidthA WidthE
  cases hx : chkN x
  · rw [hx] at hR
    simp only [Bool.false_eq_true, if_false]
    clear hin hwX hX0 hx
    go_enter Try.func39, Try.ntmps39
    go_wp2_with (go_at_call 31; refine hR.mono ?_; rintro e w1 ⟨rfl, b1⟩; have B1 := hide b1; clear b1)
    refine bodyPost_ret (v := .tuple #[.int .i64 0, .int .i64 1]) (by simp [results, Try.results39, go_sem]) rfl ⟨rfl, below_sub (unhide HWX) (unhide B1)⟩
  · rw [hx] at hR
    simp only [if_true]
    have hW := fun (W : World) (hW : Below X.heap.size X W) => rwid_any x false m v W ((hin.keep hwX).keep hW) hx hwt
    simp only [Nv.val] at hW
    clear hin hwX hX0 hx
    by_cases hm : 1 ≤ m ∧ m ≤ 64
    · rw [if_pos hm, if_pos hm]
      obtain ⟨m1, m2⟩ := hm
      have f1 : ¬ m < 1 := by omega
      have f2 : ¬ 64 < m := by omega
      go_enter Try.func39, Try.ntmps39
      go_wp2_with (first
        | (go_at_call 31; refine hR.mono ?_; rintro e w1 ⟨rfl, b1⟩; obtain ⟨s0, s1, s2, s3, s4, s5, s6, s7⟩ := of8' ((b1.block _ hz0).trans (unhide HX0)); have B1 := hide b1; clear b1)
        | (go_at_call 96; refine (hW _ (unhide B1)).mono ?_; rintro e w2 ⟨rfl, b2⟩; have B2 := hide (below_sub (unhide B1) b2); clear b2))
      refine bodyPost_ret (v := .tuple #[.int .i64 (widN m (downN x false)), .int .i64 0]) (by simp [results, Try.results39, go_sem]) rfl ⟨rfl, below_sub (unhide HWX) (unhide B2)⟩
    · rw [if_neg hm, if_neg hm]
      by_cases f1 : m < 1
      · clear hm
        go_enter Try.func39, Try.ntmps39
        go_wp2_with (go_at_call 31; refine hR.mono ?_; rintro e w1 ⟨rfl, b1⟩; have B1 := hide b1; clear b1)
        refine bodyPost_ret (v := .tuple #[.int .i64 0, .int .i64 2]) (by simp [results, Try.results39, go_sem]) rfl ⟨rfl, below_sub (unhide HWX) (unhide B1)⟩
      · have f2 : 64 < m := by omega
        clear hm
        go_enter Try.func39, Try.ntmps39
        go_wp2_with (go_at_call 31; refine hR.mono ?_; rintro e w1 ⟨rfl, b1⟩; have B1 := hide b1; clear b1)
        refine bodyPost_ret (v := .tuple #[.int .i64 0, .int .i64 2]) (by simp [results, Try.results39, go_sem]) rfl ⟨rfl, below_sub (unhide HWX) (unhide B1)⟩
def RatP (x : Nd) : Prop := ∀ (v : Nv) (w : World), NdIn w v x → chkN x = true → wtN x ≤ 1000000000 → Calls Try.prog 98 #[v.val] w fun e w' => e = .returned (.bool (atN x)) ∧ Below w.heap.size w w'
set_option maxRecDepth 100000 in
set_option maxHeartbeats 8000000 in
theorem rat_many (kind : Int) (attr : ByteArray) (qi : Option Addr) (ci : Nat) (ints : List Int) (qw : Option Addr) (cw : Nat) (words : List ByteArray) (lo hi op : Int) (qk : Option Addr) (ck : Nat) (kids : List Nd) (w : World) (hk : NdsOf w qk ck kids) (ih : ∀ x ∈ kids, RatP x) (hc : ∀ x ∈ kids, chkN x = true) (l3 : wtL kids ≤ 1000000000) (no2 : ¬ op = 2) :
    Calls Try.prog 98 #[.agg #[.int .i64 kind, .string attr, .slice qi ints.length ci, .slice qw words.length cw, .int .i64 lo, .int .i64 hi, .int .i64 op, .slice qk kids.length ck]] w fun e w' => e = .returned (.bool (atL kids)) ∧ Below w.heap.size w w' := by
  have hlen := Nat.le_trans (Nat.le_trans (len_size kids) (sizeL_wt kids)) l3
  have a0 : (kids.length : Int) ≤ 1000000000 := by omega
  obtain ⟨X, HX⟩ : ∃ X, w.alloc (.cells #[.int .i64 kind, .string attr, .slice qi ints.length ci, .slice qw words.length cw, .int .i64 lo, .int .i64 hi, .int .i64 op, .slice qk kids.length ck] 31) = X := ⟨_, rfl⟩
  have hX0 : X.heap[w.heap.size]? = some (.cells #[.int .i64 kind, .string attr, .slice qi ints.length ci, .slice qw words.length cw, .int .i64 lo, .int .i64 hi, .int .i64 op, .slice qk kids.length ck] 31 (0, 0)) := by rw [← HX]; exact box_nw _ _
  have hwX : Below w.heap.size w X := by rw [← HX]; exact (Below.refl _ _).alloc (Nat.le_refl _) _
  obtain ⟨x0, x1, x2, x3, x4, x5, x6, x7⟩ := of8' hX0
  have hz0 := heap_lt hX0
  have HX0 := hide hX0
  have HWX := hide hwX
  have HK := hide (hk.below hwX)
  have IH := hide ih
  have HC := hide hc
  have e2 : (op == 2) = false := by simp [no2]
  clear hk ih hc hwX hX0
  go_enter Try.func98, Try.ntmps98
  go_wp2
  go_loopw [3] (fun i wr => ∃ k : Nat, k ≤ kids.length ∧ i = .int .i64 k ∧ atL (kids.take k) = true ∧ Below X.heap.size X wr) (fun i _ => kids.length - (intOf i).toNat)
  case atStart => exact ⟨0, by omega, rfl, rfl, Below.refl _ _⟩
  case round =>
    obtain ⟨k, hkk, rfl, hall, hbel⟩ := hrel
    have HB := hide hbel
    obtain ⟨t0, t1, t2, t3, t4, t5, t6, t7⟩ := of8' ((hbel.block _ hz0).trans (unhide HX0))
    by_cases hlt : k < kids.length
    · obtain ⟨x, hx, hxd⟩ := get_at hlt
      clear hxd
      obtain ⟨b, off, v, hq, hin, g0, g1, g2, g3, g4, g5, g6, g7⟩ := (unhide HK).on hx hbel
      subst hq
      have hxm : x ∈ kids := List.mem_of_getElem? hx
      have hxw := wtL_mem hxm
      have ki0 : (0 : Int) ≤ (k : Int) := by omega
      have ki1 : (k : Int) < (kids.length : Int) := by omega
      have hW := unhide IH x hxm v wr hin (unhide HC x hxm) (by omega)
      simp only [Nv.val] at hW
      have HSN := hide (atL_snoc hx)
      have HM := hide hxm
      have HA := hide hall
      clear hin hx hxm hbel hall
      cases hat : atN x
      · rw [hat] at hW
        go_wp2_with (go_at_call 98; refine hW.mono ?_; rintro e w2 ⟨rfl, b2⟩; have B2 := hide b2; clear b2)
        go_ret
        exact ⟨by rw [atL_no (unhide HM) hat]; rfl, below_sub (unhide HWX) (below_sub (unhide HB) (unhide B2))⟩
      · rw [hat] at hW HSN
        go_wp2_with (go_at_call 98; refine hW.mono ?_; rintro e w2 ⟨rfl, b2⟩; have B2 := hide b2; clear b2)
        go_roundw
        case rel => exact ⟨k + 1, by omega, by go_num, by rw [unhide HSN, unhide HA]; rfl, below_sub (unhide HB) (unhide B2)⟩
        case measure => simp [intOf]; omega
    · have hkl : k = kids.length := by omega
      subst hkl
      have ki1 : ¬ (kids.length : Int) < (kids.length : Int) := by omega
      rw [List.take_of_length_le (Nat.le_refl _)] at hall
      have HA := hide hall
      clear hall hbel
      go_wp2
      go_ret
      exact ⟨by rw [unhide HA]; rfl, below_sub (unhide HWX) (unhide HB)⟩
set_option maxRecDepth 100000 in
set_option maxHeartbeats 8000000 in
theorem rat_not (kind : Int) (attr : ByteArray) (qi : Option Addr) (ci : Nat) (ints : List Int) (qw : Option Addr) (cw : Nat) (words : List ByteArray) (lo hi : Int) (qk : Option Addr) (ck : Nat) (x : Nd) (w : World) (hk : NdsOf w qk ck [x]) (ih : RatP x) (hc : chkN x = true) (l3 : wtN x ≤ 1000000000) :
    Calls Try.prog 98 #[.agg #[.int .i64 kind, .string attr, .slice qi ints.length ci, .slice qw words.length cw, .int .i64 lo, .int .i64 hi, .int .i64 2, .slice qk 1 ck]] w fun e w' => e = .returned (.bool (decide (opN x = 1))) ∧ Below w.heap.size w w' := by
  obtain ⟨X, HX⟩ : ∃ X, w.alloc (.cells #[.int .i64 kind, .string attr, .slice qi ints.length ci, .slice qw words.length cw, .int .i64 lo, .int .i64 hi, .int .i64 2, .slice qk 1 ck] 31) = X := ⟨_, rfl⟩
  have hX0 : X.heap[w.heap.size]? = some (.cells #[.int .i64 kind, .string attr, .slice qi ints.length ci, .slice qw words.length cw, .int .i64 lo, .int .i64 hi, .int .i64 2, .slice qk 1 ck] 31 (0, 0)) := by rw [← HX]; exact box_nw _ _
  have hwX : Below w.heap.size w X := by rw [← HX]; exact (Below.refl _ _).alloc (Nat.le_refl _) _
  obtain ⟨x0, x1, x2, x3, x4, x5, x6, x7⟩ := of8' hX0
  have hz0 := heap_lt hX0
  have HX0 := hide hX0
  have HWX := hide hwX
  obtain ⟨b, off, v, hq, hb, hin, g0, g1, g2, g3, g4, g5, g6, g7⟩ := (hk.below hwX).at (j := 0) (x := x) rfl
  subst hq
  simp only [Nat.zero_mul, Nat.add_zero] at g0 g1 g2 g3 g4 g5 g6 g7
  have hop : v.op = opN x := by
    cases x with
    | mk a1 a2 a3 a4 a5 a6 a7 a8 => obtain ⟨_, _, _, _, _, _, rfl, _⟩ := hin.parts; rfl
  have hC := fun (W : World) (hW : Below X.heap.size X W) => ih v W (hin.keep hW) hc l3
  by_cases h1 : opN x = 1
  · have hat : atN x = true := by
      cases x with
      | mk a1 a2 a3 a4 a5 a6 a7 a8 =>
        simp only [opN] at h1
        subst h1
        rcases chk_parts hc with ⟨_, rfl, _⟩ | ⟨h, _⟩ | ⟨h, _⟩
        · rfl
        · omega
        · omega
    rw [hat] at hC
    rw [h1] at hop
    rw [show decide (opN x = 1) = true by simp [h1]]
    have vop : (v.op != 1) = false := by simp [hop]
    rw [hop] at g6
    simp only [Nv.val, hop] at hC
    clear hk ih hc hin hwX hX0 h1 hat
    go_enter Try.func98, Try.ntmps98
    go_wp2
    go_loopw [3] (fun i wr => ∃ k : Nat, k ≤ 1 ∧ i = .int .i64 k ∧ (k = 1 → True) ∧ Below X.heap.size X wr) (fun i _ => 1 - (intOf i).toNat)
    case atStart => exact ⟨0, by omega, rfl, fun h => by omega, Below.refl _ _⟩
    case round =>
      obtain ⟨k, hkk, rfl, hall, hbel⟩ := hrel
      have HB := hide hbel
      obtain ⟨t0, t1, t2, t3, t4, t5, t6, t7⟩ := of8' ((hbel.block _ hz0).trans (unhide HX0))
      by_cases hlt : k < 1
      · obtain rfl : k = 0 := by omega
        have g0' := (hbel.cell (p := ⟨b, off, none⟩) hb).trans g0
        have g1' := (hbel.cell (p := ⟨b, off + 1, none⟩) hb).trans g1
        have g2' := (hbel.cell (p := ⟨b, off + 2, none⟩) hb).trans g2
        have g3' := (hbel.cell (p := ⟨b, off + 3, none⟩) hb).trans g3
        have g4' := (hbel.cell (p := ⟨b, off + 4, none⟩) hb).trans g4
        have g5' := (hbel.cell (p := ⟨b, off + 5, none⟩) hb).trans g5
        have g6' := (hbel.cell (p := ⟨b, off + 6, none⟩) hb).trans g6
        have g7' := (hbel.cell (p := ⟨b, off + 7, none⟩) hb).trans g7
        clear hbel hall
        go_wp2_with (go_at_call 98; refine (hC _ (unhide HB)).mono ?_; rintro e w2 ⟨rfl, b2⟩; have B2 := hide (below_sub (unhide HB) b2); clear b2)
        go_roundw
        case rel => exact ⟨1, by omega, rfl, fun _ => trivial, unhide B2⟩
        case measure => simp [intOf]
      · obtain rfl : k = 1 := by omega
        clear hbel
        go_wp2
        go_ret
        exact ⟨rfl, below_sub (unhide HWX) (unhide HB)⟩
  · rw [show decide (opN x = 1) = false by simp [h1]]
    have vop : (v.op != 1) = true := by rw [hop]; simp [h1]
    have vop2 : ¬ v.op = 1 := by rw [hop]; exact h1
    clear hk ih hc hin hwX hX0 hC h1 hop
    go_enter Try.func98, Try.ntmps98
    go_wp2
    go_loopw [3] (fun i wr => ∃ k : Nat, k ≤ 1 ∧ i = .int .i64 k ∧ (k = 1 → False) ∧ Below X.heap.size X wr) (fun i _ => 1 - (intOf i).toNat)
    case atStart => exact ⟨0, by omega, rfl, fun h => by omega, Below.refl _ _⟩
    case round =>
      obtain ⟨k, hkk, rfl, hall, hbel⟩ := hrel
      have HB := hide hbel
      obtain ⟨t0, t1, t2, t3, t4, t5, t6, t7⟩ := of8' ((hbel.block _ hz0).trans (unhide HX0))
      by_cases hlt : k < 1
      · obtain rfl : k = 0 := by omega
        have g0' := (hbel.cell (p := ⟨b, off, none⟩) hb).trans g0
        have g1' := (hbel.cell (p := ⟨b, off + 1, none⟩) hb).trans g1
        have g2' := (hbel.cell (p := ⟨b, off + 2, none⟩) hb).trans g2
        have g3' := (hbel.cell (p := ⟨b, off + 3, none⟩) hb).trans g3
        have g4' := (hbel.cell (p := ⟨b, off + 4, none⟩) hb).trans g4
        have g5' := (hbel.cell (p := ⟨b, off + 5, none⟩) hb).trans g5
        have g6' := (hbel.cell (p := ⟨b, off + 6, none⟩) hb).trans g6
        have g7' := (hbel.cell (p := ⟨b, off + 7, none⟩) hb).trans g7
        clear hbel hall
        go_wp2
        go_ret
        exact ⟨rfl, below_sub (unhide HWX) (unhide HB)⟩
      · obtain rfl : k = 1 := by omega
        clear hbel
        exact (hall rfl).elim
theorem rat_any : ∀ x, RatP x := by
  intro t
  induction t using Nd.ind with
  | h kind attr ints words lo hi op kids ih =>
    intro v w hin hc hwt
    obtain ⟨qi, ci, qw, cw, qk, ck, rfl, h1, h2, hk⟩ := hin.parts
    simp only [wtN] at hwt
    by_cases n2 : op = 2
    · subst n2
      rcases chk_parts hc with ⟨h, _⟩ | ⟨_, ⟨x, rfl, hx⟩, _⟩ | ⟨h, _⟩
      · omega
      · have := rat_not kind attr qi ci ints qw cw words lo hi qk ck x w hk (ih x (by simp)) hx (by simp only [wtL] at hwt; omega)
        simpa only [atN, if_true, headPred, Nv.val, List.length_cons, List.length_nil, Nat.zero_add] using this
      · omega
    · have hl : chkL kids = true := by
        simp only [chkN, Bool.and_eq_true] at hc; exact hc.2
      have := rat_many kind attr qi ci ints qw cw words lo hi op qk ck kids w hk ih (chkL_all hl) (by omega) n2
      simpa only [atN, if_neg n2, Nv.val] using this
set_option maxRecDepth 100000 in
set_option maxHeartbeats 4000000 in
theorem refPushed_any (x : Nd) (v : Nv) (w : World) (hin : NdIn w v x) (hwt : wtN x ≤ 1000000000) :
    Calls Try.prog 42 #[.agg #[.int .i64 v.kind, .string v.attr, .slice v.qi v.ni v.ci, .slice v.qw v.nw v.cw, .int .i64 v.lo, .int .i64 v.hi, .int .i64 v.op, .slice v.qk v.nk v.ck]] w fun e w' => e = .returned (.bool (chkN x && atN x)) ∧ Below w.heap.size w w' := by
  obtain ⟨X, HX⟩ : ∃ X, w.alloc (.cells #[.int .i64 v.kind, .string v.attr, .slice v.qi v.ni v.ci, .slice v.qw v.nw v.cw, .int .i64 v.lo, .int .i64 v.hi, .int .i64 v.op, .slice v.qk v.nk v.ck] 31) = X := ⟨_, rfl⟩
  have hX0 : X.heap[w.heap.size]? = some (.cells #[.int .i64 v.kind, .string v.attr, .slice v.qi v.ni v.ci, .slice v.qw v.nw v.cw, .int .i64 v.lo, .int .i64 v.hi, .int .i64 v.op, .slice v.qk v.nk v.ck] 31 (0, 0)) := by rw [← HX]; exact box_nw _ _
  have hwX : Below w.heap.size w X := by rw [← HX]; exact (Below.refl _ _).alloc (Nat.le_refl _) _
  obtain ⟨x0, x1, x2, x3, x4, x5, x6, x7⟩ := of8' hX0
  have hz0 := heap_lt hX0
  have HX0 := hide hX0
  have HWX := hide hwX
  have hR := rchk_any x v X (hin.keep hwX) hwt
  simp only [Nv.val] at hR
  cases hx : chkN x
  · rw [hx] at hR
    simp only [Bool.false_and]
    clear hin hwX hX0 hx
    go_enter Try.func42, Try.ntmps42
    go_wp2_with (go_at_call 31; refine hR.mono ?_; rintro e w1 ⟨rfl, b1⟩; have B1 := hide b1; clear b1)
    go_ret
    exact ⟨rfl, below_sub (unhide HWX) (unhide B1)⟩
  · rw [hx] at hR
    simp only [Bool.true_and]
    have hW := fun (W : World) (hW : Below X.heap.size X W) => rat_any x v W ((hin.keep hwX).keep hW) hx hwt
    simp only [Nv.val] at hW
    clear hin hwX hX0 hx
    go_enter Try.func42, Try.ntmps42
    go_wp2_with (first
      | (go_at_call 31; refine hR.mono ?_; rintro e w1 ⟨rfl, b1⟩; obtain ⟨s0, s1, s2, s3, s4, s5, s6, s7⟩ := of8' ((b1.block _ hz0).trans (unhide HX0)); have B1 := hide b1; clear b1)
      | (go_at_call 98; refine (hW _ (unhide B1)).mono ?_; rintro e w2 ⟨rfl, b2⟩; have B2 := hide (below_sub (unhide B1) b2); clear b2))
    go_ret
    exact ⟨rfl, below_sub (unhide HWX) (unhide B2)⟩
end Go.Proofs.Ytppkjlmdfcifgaa
