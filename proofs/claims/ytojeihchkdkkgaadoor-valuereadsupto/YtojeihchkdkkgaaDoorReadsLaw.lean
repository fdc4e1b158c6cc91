/- The law ValueReads returns true at every text that is not too long. -/
import Derived.Test.YtojeihchkdkkgaaDoorNumber
import Derived.Test.YtojeihchkdkkgaaDoorQuotesLaw
import Derived.Test.YtojeihchkdkkgaaDoorOrder
namespace Go.Proofs.YtojeihchkdkkgaaDoor
open Go.RowKit

theorem itoa_inj {a b : Int} (ha : -2147483648 ≤ a ∧ a ≤ 2147483647) (hb : -2147483648 ≤ b ∧ b ≤ 2147483647) (h : Lib.itoa a = Lib.itoa b) : a = b := by
  have h1 := atoi_itoa a (by omega) (by omega)
  have h2 := atoi_itoa b (by omega) (by omega)
  rw [h, h2] at h1
  injection h1 with h1
  exact h1.symm
theorem num_yes (s : ByteArray) (n : Int) (h1 : -2147483648 ≤ n) (h2 : n ≤ 2147483647) (h : s.data.toList = Lib.itoa n) (w : World) (hmax : s.size ≤ 1048576) :
    Calls Tryd.prog 36 #[.string s, .int .i64 (-2147483648), .int .i64 2147483647] w fun e w' => e = .returned (.tuple #[.int .i64 n, .bool true]) ∧ Below w.heap.size w w' :=
  (number_any s w hmax).mono fun e w' ⟨he, hb⟩ => ⟨by
    rcases he with ⟨m, m1, m2, hm, he⟩ | ⟨hno, _⟩
    · rw [itoa_inj ⟨h1, h2⟩ ⟨m1, m2⟩ (h.symm.trans hm)]; exact he
    · exact absurd ⟨n, h1, h2, h⟩ hno, hb⟩
theorem num_no (s : ByteArray) (hno : ¬ Good s.data.toList) (w : World) (hmax : s.size ≤ 1048576) :
    Calls Tryd.prog 36 #[.string s, .int .i64 (-2147483648), .int .i64 2147483647] w fun e w' => e = .returned (.tuple #[.int .i64 0, .bool false]) ∧ Below w.heap.size w w' :=
  (number_any s w hmax).mono fun e w' ⟨he, hb⟩ => ⟨by
    rcases he with ⟨m, m1, m2, hm, _⟩ | ⟨_, he⟩
    · exact absurd ⟨m, m1, m2, hm⟩ hno
    · exact he, hb⟩
theorem quote_bad (t : List UInt8) : ¬ Good (quoteL t) := by
  rintro ⟨n, _, _, h⟩
  have h1 := quote_quote t
  rw [h, itoa_noquote] at h1
  simp at h1

set_option maxHeartbeats 400000 in
theorem refParse_num (s : ByteArray) (n : Int) (h1 : -2147483648 ≤ n) (h2 : n ≤ 2147483647) (h : s.data.toList = Lib.itoa n) (w : World) (hmax : s.size ≤ 1048576) :
    Calls Tryd.prog 22 #[.string s] w fun e w' => e = .returned (.tuple #[.agg #[.int .i64 1, .int .i64 n, .string ⟨#[]⟩], .int .i64 0]) ∧ Below w.heap.size w w' := by
  have hn := fun w => num_yes s n h1 h2 h w hmax
  clear h
  go_enter Tryd.func22, Tryd.ntmps22
  go_wp2_with (go_at_call 36; refine (hn _).mono ?_; rintro e w1 ⟨rfl, hb⟩; obtain ⟨hcell, hfr⟩ := bcell hb; simp at hcell hfr)
  refine bodyPost_ret (v := .tuple #[.agg #[.int .i64 1, .int .i64 n, .string ⟨#[]⟩], .int .i64 0]) (by simp [results, Tryd.results22, go_sem, hcell]) rfl ⟨rfl, ?_⟩
  exact below_st3 hb _ _ _

set_option maxHeartbeats 400000 in
theorem refParse_word (s : ByteArray) (t : List UInt8) (ht : s.data.toList = quoteL t) (h64 : t.length ≤ 64) (w : World) (hmax : s.size ≤ 1048576) :
    Calls Tryd.prog 22 #[.string s] w fun e w' => e = .returned (.tuple #[.agg #[.int .i64 2, .int .i64 0, .string ⟨t.toArray⟩], .int .i64 0]) ∧ Below w.heap.size w w' := by
  have hn := fun w => num_no s (by rw [ht]; exact quote_bad t) w hmax
  have hu := fun w => refUnq_yes s t ht w (by omega)
  obtain ⟨x, hx⟩ : ∃ x : ByteArray, x = ⟨t.toArray⟩ := ⟨_, rfl⟩
  have hsz : (x.size : Int) ≤ 64 := by
    have : (⟨t.toArray⟩ : ByteArray).size = t.length := by simp [ByteArray.size]
    rw [hx]; omega
  rw [← hx] at hu ⊢
  clear ht h64 hx
  go_enter Tryd.func22, Tryd.ntmps22
  go_wp2_with (first
    | (go_at_call 36; refine (hn _).mono ?_; rintro e w1 ⟨rfl, hb⟩; obtain ⟨hcell, hfr⟩ := bcell hb; simp at hcell hfr; have hz : w.heap.size < w1.heap.size := (by have := hb.size; simp at this; omega))
    | (go_at_call 20; refine (hu _).mono ?_; rintro e w2 ⟨rfl, hb2⟩; obtain ⟨hcell2, hfr2⟩ := bcell hb2))
  refine bodyPost_ret (v := .tuple #[.agg #[.int .i64 2, .int .i64 0, .string x], .int .i64 0]) (by simp [results, Tryd.results22, go_sem, hcell, hcell2, hz]) rfl ⟨rfl, ?_⟩
  exact below_st3 (below_sub hb hb2) _ _ _

set_option maxHeartbeats 400000 in
theorem refParse_long (s : ByteArray) (t : List UInt8) (ht : s.data.toList = quoteL t) (h64 : ¬ t.length ≤ 64) (w : World) (hmax : s.size ≤ 1048576) :
    Calls Tryd.prog 22 #[.string s] w fun e w' => e = .returned (.tuple #[.agg #[.int .i64 0, .int .i64 0, .string ⟨#[]⟩], .int .i64 10]) ∧ Below w.heap.size w w' := by
  have hn := fun w => num_no s (by rw [ht]; exact quote_bad t) w hmax
  have hu := fun w => refUnq_yes s t ht w (by omega)
  obtain ⟨x, hx⟩ : ∃ x : ByteArray, x = ⟨t.toArray⟩ := ⟨_, rfl⟩
  have hsz : (64 : Int) < (x.size : Int) := by
    have : (⟨t.toArray⟩ : ByteArray).size = t.length := by simp [ByteArray.size]
    rw [hx]; omega
  rw [← hx] at hu
  clear ht h64 hx
  go_enter Tryd.func22, Tryd.ntmps22
  go_wp2_with (first
    | (go_at_call 36; refine (hn _).mono ?_; rintro e w1 ⟨rfl, hb⟩; obtain ⟨hcell, hfr⟩ := bcell hb; simp at hcell hfr; have hz : w.heap.size < w1.heap.size := (by have := hb.size; simp at this; omega))
    | (go_at_call 20; refine (hu _).mono ?_; rintro e w2 ⟨rfl, hb2⟩; obtain ⟨hcell2, hfr2⟩ := bcell hb2))
  refine bodyPost_ret (v := .tuple #[.agg #[.int .i64 0, .int .i64 0, .string ⟨#[]⟩], .int .i64 10]) (by simp [results, Tryd.results22, go_sem, hcell, hcell2, hz]) rfl ⟨rfl, ?_⟩
  exact below_st3 (below_sub hb hb2) _ _ _

set_option maxHeartbeats 400000 in
theorem refParse_none (s : ByteArray) (hg : ¬ Good s.data.toList) (hno : ∀ t, s.data.toList ≠ quoteL t) (w : World) (hmax : s.size ≤ 1048576) :
    Calls Tryd.prog 22 #[.string s] w fun e w' => e = .returned (.tuple #[.agg #[.int .i64 0, .int .i64 0, .string ⟨#[]⟩], .int .i64 10]) ∧ Below w.heap.size w w' := by
  have hn := fun w => num_no s hg w hmax
  have hu := fun w => refUnq_no s hno w (by omega)
  clear hg hno
  go_enter Tryd.func22, Tryd.ntmps22
  go_wp2_with (first
    | (go_at_call 36; refine (hn _).mono ?_; rintro e w1 ⟨rfl, hb⟩; obtain ⟨hcell, hfr⟩ := bcell hb; simp at hcell hfr; have hz : w.heap.size < w1.heap.size := (by have := hb.size; simp at this; omega))
    | (go_at_call 20; refine (hu _).mono ?_; rintro e w2 ⟨rfl, hb2⟩; obtain ⟨hcell2, hfr2⟩ := bcell hb2))
  refine bodyPost_ret (v := .tuple #[.agg #[.int .i64 0, .int .i64 0, .string ⟨#[]⟩], .int .i64 10]) (by simp [results, Tryd.results22, go_sem, hcell, hcell2, hz]) rfl ⟨rfl, ?_⟩
  exact below_st3 (below_sub hb hb2) _ _ _

/-- The program's Parse at a text that is no value's. -/
theorem parse_none (s : ByteArray) (hg : ¬ Good s.data.toList) (hno : ∀ t : List UInt8, t.length ≤ 64 → s.data.toList ≠ quoteL t) (w : World) (hG : G w) (hmax : s.size ≤ 1048576) :
    Calls Tryd.prog 21 #[.string s] w fun e w' => e = .returned (.tuple #[.agg #[.int .i64 0, .int .i64 0, .string ⟨#[]⟩], .int .i64 10]) ∧ Below w.heap.size w w' := by
  cases hp : Lib.hasPrefix s.data.toList [34]
  · by_cases hat : ∃ v, Lib.atoiAll s.data.toList = .ok v
    · obtain ⟨v, hv⟩ := hat
      rcases chk_01 1 v ⟨#[]⟩ with hc | hc
      · refine parse_wrong s v w hG hp (by omega) hv (fun ht => hg ?_) hc
        rcases chk_range hc with ⟨_, h1, h2, _⟩ | ⟨h, _⟩
        · refine ⟨v, h1, h2, ?_⟩
          rw [← ht]
          unfold textB
          rw [if_pos hc, if_neg (by decide)]; rfl
        · omega
      · exact parse_form s 1 v ⟨#[]⟩ w hG (fun w _ => read_num s v w hp (by omega) hv) hc
    · exact parse_miss s 1 ⟨#[]⟩ w hG (fun w hGw => read_bad s w hGw hp (by omega) (fun v hv => hat ⟨v, hv⟩))
  · by_cases hq : ∃ t, s.data.toList = quoteL t
    · obtain ⟨t, ht⟩ := hq
      have h64 : ¬ t.length ≤ 64 := fun h => hno t h ht
      refine parse_form s 2 0 ⟨t.toArray⟩ w hG (fun w _ => read_word s t w ht (by omega)) ?_
      refine chk_no2 rfl fun h => h64 ?_
      have : (⟨t.toArray⟩ : ByteArray).size = t.length := by simp [ByteArray.size]
      omega
    · exact parse_miss s 2 ⟨#[]⟩ w hG (fun w _ => (read_noword s w hp (fun t ht => hq ⟨t, ht⟩) (by omega)).mono fun e w' ⟨he, hb⟩ => ⟨⟨0, he⟩, hb⟩)

set_option maxHeartbeats 1000000 in
theorem reads_hit (s : ByteArray) (k n : Int) (x : ByteArray) (w : World) (hG : G w)
    (pv : ∀ w, G w → Calls Tryd.prog 21 #[.string s] w fun e w' => e = .returned (.tuple #[.agg #[.int .i64 k, .int .i64 n, .string x], .int .i64 0]) ∧ Below w.heap.size w w')
    (pr : ∀ w, Calls Tryd.prog 22 #[.string s] w fun e w' => e = .returned (.tuple #[.agg #[.int .i64 k, .int .i64 n, .string x], .int .i64 0]) ∧ Below w.heap.size w w')
    (ht : textB k n x = s) (hc : chkV k n x = 0) :
    Calls Tryd.prog 5 #[.string s] w fun e w' => e = .returned (.bool true) ∧ Below w.heap.size w w' := by
  have hfx := fixed_any w hG
  have htx := fun W h => text_any k n x W h
  have hchk := fun W => check_any k n x W
  rw [ht, hc] at htx
  rw [hc] at hchk
  clear ht hc
  go_enter Tryd.func5, Tryd.ntmps5
  go_wp2_with (first
    | (go_at_call 9; refine hfx.mono ?_; rintro e w0 ⟨rfl, b0⟩; have B0 := hide b0; clear b0)
    | (go_at_call 21; refine (pv _ (by exact G_below hG (unhide B0))).mono ?_; rintro e w1 ⟨rfl, b1⟩; have B1 := hide (below_sub (below_sub (unhide B0) b1) ((Below.refl _ _).alloc (Nat.le_refl _) (.cells #[.int .i64 k, .int .i64 n, .string x] 23))); have K1 := hide (Box.new w1 ⟨k, n, x⟩ 23); clear b1)
    | (go_at_call 22; refine (pr _).mono ?_; rintro e w2 ⟨rfl, b2⟩; have B2 := hide (below_sub (below_sub (unhide B1) b2) ((Below.refl _ _).alloc (Nat.le_refl _) (.cells #[.int .i64 k, .int .i64 n, .string x] 23))); have K2 := hide ((unhide K1).below b2); obtain ⟨c0, c1, c2, _, z0⟩ := unhide K2; simp only at c0 c1 c2; clear b2)
    | (go_at_call 10; refine (htx _ (by exact G_below hG (unhide B2))).mono ?_; rintro e w3 ⟨rfl, b3⟩; have B3 := hide (below_sub (unhide B2) b3); have K3 := hide (((unhide K2).alloc _).below b3); obtain ⟨d0, d1, d2, _, z1⟩ := unhide K3; simp only at d0 d1 d2; clear b3)
    | (go_at_call 12; refine (hchk _).mono ?_; rintro e w4 ⟨rfl, b4⟩; have B4 := hide (below_sub (unhide B3) b4); clear b4))
  go_ret
  exact ⟨ret_bool (by simp), unhide B4⟩

set_option maxHeartbeats 1000000 in
theorem reads_none (s : ByteArray) (w : World) (hG : G w)
    (pv : ∀ w, G w → Calls Tryd.prog 21 #[.string s] w fun e w' => e = .returned (.tuple #[.agg #[.int .i64 0, .int .i64 0, .string ⟨#[]⟩], .int .i64 10]) ∧ Below w.heap.size w w')
    (pr : ∀ w, Calls Tryd.prog 22 #[.string s] w fun e w' => e = .returned (.tuple #[.agg #[.int .i64 0, .int .i64 0, .string ⟨#[]⟩], .int .i64 10]) ∧ Below w.heap.size w w') :
    Calls Tryd.prog 5 #[.string s] w fun e w' => e = .returned (.bool true) ∧ Below w.heap.size w w' := by
  have hfx := fixed_any w hG
  go_enter Tryd.func5, Tryd.ntmps5
  go_wp2_with (first
    | (go_at_call 9; refine hfx.mono ?_; rintro e w0 ⟨rfl, b0⟩; have B0 := hide b0; clear b0)
    | (go_at_call 21; refine (pv _ (by exact G_below hG (unhide B0))).mono ?_; rintro e w1 ⟨rfl, b1⟩; have B1 := hide (below_sub (below_sub (unhide B0) b1) ((Below.refl _ _).alloc (Nat.le_refl _) (.cells #[.int .i64 0, .int .i64 0, .string ⟨#[]⟩] 23))); have K1 := hide (Box.new w1 ⟨0, 0, ⟨#[]⟩⟩ 23); clear b1)
    | (go_at_call 22; refine (pr _).mono ?_; rintro e w2 ⟨rfl, b2⟩; have B2 := hide (below_sub (below_sub (unhide B1) b2) ((Below.refl _ _).alloc (Nat.le_refl _) (.cells #[.int .i64 0, .int .i64 0, .string ⟨#[]⟩] 23))); have K2 := hide ((unhide K1).below b2); obtain ⟨c0, c1, c2, _, z0⟩ := unhide K2; simp only at c0 c1 c2; clear b2))
  go_ret
  exact ⟨rfl, unhide B2⟩

theorem valueReads_any (s : ByteArray) (w : World) (hG : G w) (hs : s.size ≤ 1048576) :
    Calls Tryd.prog 5 #[.string s] w fun e w' => e = .returned (.bool true) ∧ Below w.heap.size w w' := by
  by_cases hg : Good s.data.toList
  · obtain ⟨n, h1, h2, h⟩ := hg
    have hc : chkV 1 n ⟨#[]⟩ = 0 := chk_yes1 rfl h1 h2 ((empty_iff _).2 rfl)
    have ht : textB 1 n ⟨#[]⟩ = s := by
      unfold textB
      rw [if_pos hc, if_neg (by decide)]
      exact WideShapes.bytes_inj h.symm
    refine reads_hit s 1 n ⟨#[]⟩ w hG (fun w hGw => ?_) (fun w => refParse_num s n h1 h2 h w hs) ht hc
    have := parse_text 1 n ⟨#[]⟩ hc w hGw
    rw [ht] at this
    exact this
  · by_cases hq : ∃ t : List UInt8, s.data.toList = quoteL t
    · obtain ⟨t, htq⟩ := hq
      by_cases h64 : t.length ≤ 64
      · have hsz : (⟨t.toArray⟩ : ByteArray).size = t.length := by simp [ByteArray.size]
        have hc : chkV 2 0 ⟨t.toArray⟩ = 0 := chk_yes2 rfl rfl (by omega)
        have ht : textB 2 0 ⟨t.toArray⟩ = s := by
          unfold textB
          rw [if_pos hc, if_pos rfl]
          exact WideShapes.bytes_inj (by rw [htq]; rfl)
        refine reads_hit s 2 0 ⟨t.toArray⟩ w hG (fun w hGw => ?_) (fun w => refParse_word s t htq h64 w hs) ht hc
        have := parse_text 2 0 ⟨t.toArray⟩ hc w hGw
        rw [ht] at this
        exact this
      · exact reads_none s w hG (fun w hGw => parse_none s hg (fun t' h' e => h64 (by rw [quoteL_inj (htq.symm.trans e)]; exact h')) w hGw hs) (fun w => refParse_long s t htq h64 w hs)
    · exact reads_none s w hG (fun w hGw => parse_none s hg (fun t' _ e => hq ⟨t', e⟩) w hGw hs) (fun w => refParse_none s hg (fun t' e => hq ⟨t', e⟩) w hs)
end Go.Proofs.YtojeihchkdkkgaaDoor
