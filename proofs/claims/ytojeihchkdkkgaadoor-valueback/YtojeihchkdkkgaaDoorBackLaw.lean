/- The law ValueBack returns true at every value. -/
import Derived.Test.YtojeihchkdkkgaaDoorParse
import Derived.Test.YtojeihchkdkkgaaDoorFixed
import Derived.Test.YtojeihchkdkkgaaDoorOrder
namespace Go.Proofs.YtojeihchkdkkgaaDoor
open Go.RowKit

theorem same_refl (k n : Int) (s : ByteArray) : sameV k n s k n s = true := by simp [sameV]

set_option maxHeartbeats 1000000 in
theorem back_bad (k n : Int) (s : ByteArray) (w : World) (hG : G w) (hc : chkV k n s = 1) :
    Calls Tryd.prog 6 #[.agg #[.int .i64 k, .int .i64 n, .string s]] w fun e w' => e = .returned (.bool true) ∧ Below w.heap.size w w' := by
  have hfx := fixed_any _ (G_alloc hG (.cells #[.int .i64 k, .int .i64 n, .string s] 23))
  have H0 := hide (Box.new w ⟨k, n, s⟩ 23)
  have htx := fun W h => text_any k n s W h
  have hchk := fun W => check_any k n s W
  have ht : textB k n s = ⟨#[]⟩ := by unfold textB; rw [if_neg (by omega)]
  rw [ht, hc] at htx
  rw [hc] at hchk
  clear ht hc
  go_enter Tryd.func6, Tryd.ntmps6
  go_wp2_with (first
    | (go_at_call 9; refine hfx.mono ?_; rintro e w0 ⟨rfl, hb1⟩; have HB1 := hide (below_sub ((Below.refl _ _).alloc (Nat.le_refl _) _) hb1); have K0 := hide ((unhide H0).below hb1); obtain ⟨c0, c1, c2, _, z0⟩ := unhide K0; simp only at c0 c1 c2; clear hb1)
    | (go_at_call 10; refine (htx _ (by exact G_below hG (unhide HB1))).mono ?_; rintro e wt ⟨rfl, hbt⟩; have HB2 := hide (below_sub (unhide HB1) hbt); have L0 := hide ((unhide K0).below hbt); obtain ⟨d0, d1, d2, _, z1⟩ := unhide L0; simp only at d0 d1 d2; clear hbt)
    | (go_at_call 12; refine (hchk _).mono ?_; rintro e w1 ⟨rfl, hbr⟩; have HB3 := hide (below_sub (unhide HB2) hbr)))
  go_ret
  exact ⟨rfl, unhide HB3⟩

set_option maxHeartbeats 1000000 in
theorem back_good (k n : Int) (s : ByteArray) (w : World) (hG : G w) (hc : chkV k n s = 0) :
    Calls Tryd.prog 6 #[.agg #[.int .i64 k, .int .i64 n, .string s]] w fun e w' => e = .returned (.bool true) ∧ Below w.heap.size w w' := by
  have hfx := fixed_any _ (G_alloc hG (.cells #[.int .i64 k, .int .i64 n, .string s] 23))
  have H0 := hide (Box.new w ⟨k, n, s⟩ 23)
  have htx := fun W h => text_any k n s W h
  have hpx := fun W h => parse_text k n s hc W h
  have hchk := fun W => check_any k n s W
  have heq := fun W => eqlV k n s k n s W
  rw [same_refl] at heq
  rw [hc] at htx hchk
  generalize textB k n s = T at htx hpx
  clear hc
  go_enter Tryd.func6, Tryd.ntmps6
  go_wp2_with (first
    | (go_at_call 9; refine hfx.mono ?_; rintro e w0 ⟨rfl, hb1⟩; have HB1 := hide (below_sub ((Below.refl _ _).alloc (Nat.le_refl _) _) hb1); have K0 := hide ((unhide H0).below hb1); obtain ⟨c0, c1, c2, _, z0⟩ := unhide K0; simp only at c0 c1 c2; clear hb1)
    | (go_at_call 10; refine (htx _ (by exact G_below hG (unhide HB1))).mono ?_; rintro e wt ⟨rfl, hbt⟩; have HB2 := hide (below_sub (unhide HB1) hbt); have L0 := hide ((unhide K0).below hbt); clear hbt)
    | (go_at_call 21; refine (hpx _ (by exact G_below hG (unhide HB2))).mono ?_; rintro e wp ⟨rfl, hbp⟩; have HB3 := hide (below_sub (unhide HB2) hbp); have M0 := hide ((unhide L0).below hbp); obtain ⟨d0, d1, d2, _, z1⟩ := unhide M0; simp only at d0 d1 d2; clear hbp)
    | (go_at_call 12; refine (hchk _).mono ?_; rintro e w1 ⟨rfl, hbr⟩; have HB4 := hide hbr))
  go_ret
  exact ⟨rfl, below_sub ((unhide HB3).alloc (unhide HB3).size _) (unhide HB4)⟩

theorem valueBack_any (k n : Int) (s : ByteArray) (w : World) (hG : G w) :
    Calls Tryd.prog 6 #[.agg #[.int .i64 k, .int .i64 n, .string s]] w fun e w' => e = .returned (.bool true) ∧ Below w.heap.size w w' := by
  rcases chk_01 k n s with h | h
  · exact back_good k n s w hG h
  · exact back_bad k n s w hG h
end Go.Proofs.YtojeihchkdkkgaaDoor
