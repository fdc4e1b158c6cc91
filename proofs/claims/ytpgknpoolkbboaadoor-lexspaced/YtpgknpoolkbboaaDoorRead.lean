/- The law ValueReads returns true at every text that is not too long. -/
import Derived.Test.YtpgknpoolkbboaaDoorNumber
import Derived.Test.YtpgknpoolkbboaaDoorRefUnq
namespace Go.Proofs.YtpgknpoolkbboaaDoor
open Go.RowKit

theorem itoa_inj {a b : Int} (ha : -2147483648 ≤ a ∧ a ≤ 2147483647) (hb : -2147483648 ≤ b ∧ b ≤ 2147483647) (h : Lib.itoa a = Lib.itoa b) : a = b := by
  have h1 := atoi_itoa a (by omega) (by omega)
  have h2 := atoi_itoa b (by omega) (by omega)
  rw [h, h2] at h1
  injection h1 with h1
  exact h1.symm
theorem num_yes (s : ByteArray) (n : Int) (h1 : -2147483648 ≤ n) (h2 : n ≤ 2147483647) (h : s.data.toList = Lib.itoa n) (w : World) (hmax : s.size ≤ 1048576) :
    Calls Tryd.prog 60 #[.string s, .int .i64 (-2147483648), .int .i64 2147483647] w fun e w' => e = .returned (.tuple #[.int .i64 n, .bool true]) ∧ Below w.heap.size w w' :=
  (number_any s w hmax).mono fun e w' ⟨he, hb⟩ => ⟨by
    rcases he with ⟨m, m1, m2, hm, he⟩ | ⟨hno, _⟩
    · rw [itoa_inj ⟨h1, h2⟩ ⟨m1, m2⟩ (h.symm.trans hm)]; exact he
    · exact absurd ⟨n, h1, h2, h⟩ hno, hb⟩
theorem num_no (s : ByteArray) (hno : ¬ Good s.data.toList) (w : World) (hmax : s.size ≤ 1048576) :
    Calls Tryd.prog 60 #[.string s, .int .i64 (-2147483648), .int .i64 2147483647] w fun e w' => e = .returned (.tuple #[.int .i64 0, .bool false]) ∧ Below w.heap.size w w' :=
  (number_any s w hmax).mono fun e w' ⟨he, hb⟩ => ⟨by
    rcases he with ⟨m, m1, m2, hm, _⟩ | ⟨_, he⟩
    · exact absurd ⟨m, m1, m2, hm⟩ hno
    · exact he, hb⟩
theorem quote_bad (t : List UInt8) : ¬ Good (quoteL t) := by
  rintro ⟨n, _, _, h⟩
  have h1 := quote_quote t
  rw [h, itoa_noquote] at h1
  simp at h1

set_option maxHeartbeats 400000 in
theorem refParse_num (s : ByteArray) (n : Int) (h1 : -2147483648 ≤ n) (h2 : n ≤ 2147483647) (h : s.data.toList = Lib.itoa n) (w : World) (hmax : s.size ≤ 1048576) :
    Calls Tryd.prog 62 #[.string s] w fun e w' => e = .returned (.tuple #[.agg #[.int .i64 1, .int .i64 n, .string ⟨#[]⟩], .int .i64 0]) ∧ Below w.heap.size w w' := by
  have hn := fun w => num_yes s n h1 h2 h w hmax
  clear h
  go_enter Tryd.func62, Tryd.ntmps62
  go_wp2_with (go_at_call 60; refine (hn _).mono ?_; rintro e w1 ⟨rfl, hb⟩; obtain ⟨hcell, hfr⟩ := bcell hb; simp at hcell hfr)
  refine bodyPost_ret (v := .tuple #[.agg #[.int .i64 1, .int .i64 n, .string ⟨#[]⟩], .int .i64 0]) (by simp [results, Tryd.results62, go_sem, hcell]) rfl ⟨rfl, ?_⟩
  exact below_st3 hb _ _ _

set_option maxHeartbeats 400000 in
theorem refParse_word (s : ByteArray) (t : List UInt8) (ht : s.data.toList = quoteL t) (h64 : t.length ≤ 64) (w : World) (hmax : s.size ≤ 1048576) :
    Calls Tryd.prog 62 #[.string s] w fun e w' => e = .returned (.tuple #[.agg #[.int .i64 2, .int .i64 0, .string ⟨t.toArray⟩], .int .i64 0]) ∧ Below w.heap.size w w' := by
  have hn := fun w => num_no s (by rw [ht]; exact quote_bad t) w hmax
  have hu := fun w => refUnq_yes s t ht w (by omega)
  obtain ⟨x, hx⟩ : ∃ x : ByteArray, x = ⟨t.toArray⟩ := ⟨_, rfl⟩
  have hsz : (x.size : Int) ≤ 64 := by
    have : (⟨t.toArray⟩ : ByteArray).size = t.length := by simp [ByteArray.size]
    rw [hx]; omega
  rw [← hx] at hu ⊢
  clear ht h64 hx
  go_enter Tryd.func62, Tryd.ntmps62
  go_wp2_with (first
    | (go_at_call 60; refine (hn _).mono ?_; rintro e w1 ⟨rfl, hb⟩; obtain ⟨hcell, hfr⟩ := bcell hb; simp at hcell hfr; have hz : w.heap.size < w1.heap.size := (by have := hb.size; simp at this; omega))
    | (go_at_call 95; refine (hu _).mono ?_; rintro e w2 ⟨rfl, hb2⟩; obtain ⟨hcell2, hfr2⟩ := bcell hb2))
  refine bodyPost_ret (v := .tuple #[.agg #[.int .i64 2, .int .i64 0, .string x], .int .i64 0]) (by simp [results, Tryd.results62, go_sem, hcell, hcell2, hz]) rfl ⟨rfl, ?_⟩
  exact below_st3 (below_sub hb hb2) _ _ _

set_option maxHeartbeats 400000 in
theorem refParse_long (s : ByteArray) (t : List UInt8) (ht : s.data.toList = quoteL t) (h64 : ¬ t.length ≤ 64) (w : World) (hmax : s.size ≤ 1048576) :
    Calls Tryd.prog 62 #[.string s] w fun e w' => e = .returned (.tuple #[.agg #[.int .i64 0, .int .i64 0, .string ⟨#[]⟩], .int .i64 10]) ∧ Below w.heap.size w w' := by
  have hn := fun w => num_no s (by rw [ht]; exact quote_bad t) w hmax
  have hu := fun w => refUnq_yes s t ht w (by omega)
  obtain ⟨x, hx⟩ : ∃ x : ByteArray, x = ⟨t.toArray⟩ := ⟨_, rfl⟩
  have hsz : (64 : Int) < (x.size : Int) := by
    have : (⟨t.toArray⟩ : ByteArray).size = t.length := by simp [ByteArray.size]
    rw [hx]; omega
  rw [← hx] at hu
  clear ht h64 hx
  go_enter Tryd.func62, Tryd.ntmps62
  go_wp2_with (first
    | (go_at_call 60; refine (hn _).mono ?_; rintro e w1 ⟨rfl, hb⟩; obtain ⟨hcell, hfr⟩ := bcell hb; simp at hcell hfr; have hz : w.heap.size < w1.heap.size := (by have := hb.size; simp at this; omega))
    | (go_at_call 95; refine (hu _).mono ?_; rintro e w2 ⟨rfl, hb2⟩; obtain ⟨hcell2, hfr2⟩ := bcell hb2))
  refine bodyPost_ret (v := .tuple #[.agg #[.int .i64 0, .int .i64 0, .string ⟨#[]⟩], .int .i64 10]) (by simp [results, Tryd.results62, go_sem, hcell, hcell2, hz]) rfl ⟨rfl, ?_⟩
  exact below_st3 (below_sub hb hb2) _ _ _

set_option maxHeartbeats 400000 in
theorem refParse_none (s : ByteArray) (hg : ¬ Good s.data.toList) (hno : ∀ t, s.data.toList ≠ quoteL t) (w : World) (hmax : s.size ≤ 1048576) :
    Calls Tryd.prog 62 #[.string s] w fun e w' => e = .returned (.tuple #[.agg #[.int .i64 0, .int .i64 0, .string ⟨#[]⟩], .int .i64 10]) ∧ Below w.heap.size w w' := by
  have hn := fun w => num_no s hg w hmax
  have hu := fun w => refUnq_no s hno w (by omega)
  clear hg hno
  go_enter Tryd.func62, Tryd.ntmps62
  go_wp2_with (first
    | (go_at_call 60; refine (hn _).mono ?_; rintro e w1 ⟨rfl, hb⟩; obtain ⟨hcell, hfr⟩ := bcell hb; simp at hcell hfr; have hz : w.heap.size < w1.heap.size := (by have := hb.size; simp at this; omega))
    | (go_at_call 95; refine (hu _).mono ?_; rintro e w2 ⟨rfl, hb2⟩; obtain ⟨hcell2, hfr2⟩ := bcell hb2))
  refine bodyPost_ret (v := .tuple #[.agg #[.int .i64 0, .int .i64 0, .string ⟨#[]⟩], .int .i64 10]) (by simp [results, Tryd.results62, go_sem, hcell, hcell2, hz]) rfl ⟨rfl, ?_⟩
  exact below_st3 (below_sub hb hb2) _ _ _

/-- The program's Parse at a text that is no value's. -/
theorem parse_none (s : ByteArray) (hg : ¬ Good s.data.toList) (hno : ∀ t : List UInt8, t.length ≤ 64 → s.data.toList ≠ quoteL t) (w : World) (hG : G w) (hmax : s.size ≤ 1048576) :
    Calls Tryd.prog 91 #[.string s] w fun e w' => e = .returned (.tuple #[.agg #[.int .i64 0, .int .i64 0, .string ⟨#[]⟩], .int .i64 10]) ∧ Below w.heap.size w w' := by
  cases hp : Lib.hasPrefix s.data.toList [34]
  · by_cases hat : ∃ v, Lib.atoiAll s.data.toList = .ok v
    · obtain ⟨v, hv⟩ := hat
      rcases chk_01 1 v ⟨#[]⟩ with hc | hc
      · refine parse_wrong s v w hG hp (by omega) hv (fun ht => hg ?_) hc
        rcases chk_range hc with ⟨_, h1, h2, _⟩ | ⟨h, _⟩
        · refine ⟨v, h1, h2, ?_⟩
          rw [← ht]
          unfold textB
          rw [if_pos hc, if_neg (by decide)]; rfl
        · omega
      · exact parse_form s 1 v ⟨#[]⟩ w hG (fun w _ => read_num s v w hp (by omega) hv) hc
    · exact parse_miss s 1 ⟨#[]⟩ w hG (fun w hGw => read_bad s w hGw hp (by omega) (fun v hv => hat ⟨v, hv⟩))
  · by_cases hq : ∃ t, s.data.toList = quoteL t
    · obtain ⟨t, ht⟩ := hq
      have h64 : ¬ t.length ≤ 64 := fun h => hno t h ht
      refine parse_form s 2 0 ⟨t.toArray⟩ w hG (fun w _ => read_word s t w ht (by omega)) ?_
      refine chk_no2 rfl fun h => h64 ?_
      have : (⟨t.toArray⟩ : ByteArray).size = t.length := by simp [ByteArray.size]
      omega
    · exact parse_miss s 2 ⟨#[]⟩ w hG (fun w _ => (read_noword s w hp (fun t ht => hq ⟨t, ht⟩) (by omega)).mono fun e w' ⟨he, hb⟩ => ⟨⟨0, he⟩, hb⟩)

end Go.Proofs.YtpgknpoolkbboaaDoor
