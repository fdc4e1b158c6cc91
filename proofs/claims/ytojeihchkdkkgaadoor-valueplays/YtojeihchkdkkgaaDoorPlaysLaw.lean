/- The law ValuePlays returns true at every two values. -/
import Derived.Test.YtojeihchkdkkgaaDoorOrderLaw
import Derived.Test.YtojeihchkdkkgaaDoorRef
import Derived.Test.YtojeihchkdkkgaaDoorRefText
namespace Go.Proofs.YtojeihchkdkkgaaDoor
open Go.RowKit

theorem box2 (w : World) (a b : Val) (o1 o2 : Obj) (h1 : o1 = .cells #[.int .i64 a.k, .int .i64 a.n, .string a.s] 23) (h2 : o2 = .cells #[.int .i64 b.k, .int .i64 b.n, .string b.s] 23) :
    Box ((w.alloc o1).alloc o2) w.heap.size a ∧ Box ((w.alloc o1).alloc o2) (w.heap.size + 1) b := by
  subst h1; subst h2
  refine ⟨(Box.new w a 23).alloc _, ?_⟩
  have := Box.new (w.alloc (.cells #[.int .i64 a.k, .int .i64 a.n, .string a.s] 23)) b 23
  simpa using this

set_option maxRecDepth 100000 in
set_option maxHeartbeats 4000000 in
theorem valuePlays_any (k n : Int) (s : ByteArray) (k' n' : Int) (s' : ByteArray) (w : World) (hG : G w) (hs : s.size ≤ maxLen) :
    Calls Tryd.prog 3 #[.agg #[.int .i64 k, .int .i64 n, .string s], .agg #[.int .i64 k', .int .i64 n', .string s']] w fun e w' => e = .returned (.bool true) ∧ Below w.heap.size w w' := by
  obtain ⟨B0, B1⟩ := box2 w ⟨k, n, s⟩ ⟨k', n', s'⟩ _ _ rfl rfl
  have hb0 : Below w.heap.size w ((w.alloc (.cells #[.int .i64 k, .int .i64 n, .string s] 23)).alloc (.cells #[.int .i64 k', .int .i64 n', .string s'] 23)) := ((Below.refl _ _).alloc (Nat.le_refl _) _).alloc (by simp) _
  have hfx := fixed_any _ (G_below hG hb0)
  have heq := fun W => eqlV k n s k' n' s' W
  have hcmp := fun W => compare_any k n s k' n' s' W
  have hrcmp := fun W => refCompare_any k n s k' n' s' W hs
  have hsam := fun W => same_any k n s k' n' s' W
  have hchk := fun W => check_any k n s W
  have hrchk := fun W => refCheck_any k n s W
  have htx := fun W h => text_any k n s W h
  have hrtx := fun W => refText_any k n s W
  generalize cmpV k n s k' n' s' = X at hcmp hrcmp
  generalize sameV k n s k' n' s' = Y at heq hsam
  generalize chkV k n s = Z at hchk hrchk htx hrtx
  generalize textB k n s = T at htx hrtx
  have H0 := hide B0
  have H1 := hide B1
  have HB := hide hb0
  clear B0 B1 hb0 hs
  go_enter Tryd.func3, Tryd.ntmps3
  go_wp2_with (first
    | (go_at_call 9; refine hfx.mono ?_; rintro e w0 ⟨rfl, hb1⟩; have HB1 := hide (below_sub (unhide HB) hb1); have K0 := hide ((unhide H0).below hb1); have K1 := hide ((unhide H1).below hb1); obtain ⟨c0, c1, c2, _, z0⟩ := unhide K0; simp only at c0 c1 c2; clear hb1)
    | (go_at_call 10; refine (htx _ (by exact G_below hG (unhide HB1))).mono ?_; rintro e wt ⟨rfl, hbt⟩; have HB2 := hide (below_sub (unhide HB1) hbt); have L0 := hide ((unhide K0).below hbt); have L1 := hide ((unhide K1).below hbt); obtain ⟨d0, d1, d2, _, z1⟩ := unhide L0; simp only at d0 d1 d2; clear hbt)
    | (go_at_call 11; refine (hrtx _).mono ?_; rintro e w1 ⟨rfl, hbr⟩; have HB3 := hide (below_sub (unhide HB2) hbr); have M0 := hide ((unhide L0).below hbr); have M1 := hide ((unhide L1).below hbr); clear hbr))
  obtain ⟨q0, q1, q2, _, z2⟩ := unhide M0
  obtain ⟨p0, p1, p2, _, z3⟩ := unhide M1
  simp only at q0 q1 q2 p0 p1 p2
  clear M0 M1 L0 L1 K0 K1 HB1 HB2 htx hrtx hfx H0 H1 HB c0 c1 c2 d0 d1 d2 z0 z1
  go_region_held3 (fun w' => w'.cell? ⟨w.heap.size, 0, none⟩ = some (.int .i64 k) ∧ w'.cell? ⟨w.heap.size, 1, none⟩ = some (.int .i64 n) ∧ w'.cell? ⟨w.heap.size, 2, none⟩ = some (.string s) ∧ w'.cell? ⟨w.heap.size + 1, 0, none⟩ = some (.int .i64 k') ∧ w'.cell? ⟨w.heap.size + 1, 1, none⟩ = some (.int .i64 n') ∧ w'.cell? ⟨w.heap.size + 1, 2, none⟩ = some (.string s'))
    (first | go_keep | exact ⟨(R2.cell (by exact z2)).trans q0, (R2.cell (by exact z2)).trans q1, (R2.cell (by exact z2)).trans q2, (R2.cell (by exact z3)).trans p0, (R2.cell (by exact z3)).trans p1, (R2.cell (by exact z3)).trans p2⟩)
    ((first
      | (go_at_call 12; refine (hchk _).mono ?_; rintro e w2 ⟨rfl, hb2⟩; have R2 : Below w1.heap.size w1 w2 := (by first | exact below_undrew hb2 | exact below_sub R2 hb2))
      | (go_at_call 13; refine (hrchk _).mono ?_; rintro e w2 ⟨rfl, hb2⟩; have R2 : Below w1.heap.size w1 w2 := (by first | exact below_undrew hb2 | exact below_sub R2 hb2))
      | (go_at_call 14; refine (hsam _).mono ?_; rintro e w2 ⟨rfl, hb2⟩; have R2 : Below w1.heap.size w1 w2 := (by first | exact below_undrew hb2 | exact below_sub R2 hb2))
      | (go_at_call 15; refine (hcmp _).mono ?_; rintro e w2 ⟨rfl, hb2⟩; have R2 : Below w1.heap.size w1 w2 := (by first | exact below_undrew hb2 | exact below_sub R2 hb2))
      | (go_at_call 16; refine (hrcmp _).mono ?_; rintro e w2 ⟨rfl, hb2⟩; have R2 : Below w1.heap.size w1 w2 := (by first | exact below_undrew hb2 | exact below_sub R2 hb2))))
  all_goals
    go_wp2
    go_ret
    exact ⟨ret_bool (by simp), below_sub (unhide HB3) R2⟩
end Go.Proofs.YtojeihchkdkkgaaDoor
