/- What value.Parse returns, for every text. -/
import Derived.Test.YtpgknpoolkbboaaDoorUnquote
import Derived.Test.YtpgknpoolkbboaaDoorBackPlain
namespace Go.Proofs.YtpgknpoolkbboaaDoor
open Go.RowKit

theorem quoteL_inj {l t : List UInt8} (h : quoteL l = quoteL t) : l = t := by
  unfold quoteL at h
  simp only [List.cons_append, List.cons.injEq, true_and] at h
  exact escs_inj (List.append_cancel_right h)
theorem unq_yes (s : ByteArray) (t : List UInt8) (ht : s.data.toList = quoteL t) (w : World) (hmax : s.size ≤ 100000000000000) :
    Calls Tryd.prog 120 #[.string s] w fun e w' => e = .returned (.tuple #[.string ⟨t.toArray⟩, .int .i64 0]) ∧ Below w.heap.size w w' :=
  (unquote_any s w hmax).mono fun e w' ⟨he, hb⟩ => ⟨by
    rcases he with ⟨t', ht', he⟩ | ⟨hno, _⟩
    · rw [quoteL_inj (ht.symm.trans ht')]; exact he
    · exact absurd ht (hno t), hb⟩
theorem unq_no (s : ByteArray) (hno : ∀ t, s.data.toList ≠ quoteL t) (w : World) (hmax : s.size ≤ 100000000000000) :
    Calls Tryd.prog 120 #[.string s] w fun e w' => e = .returned (.tuple #[.string ⟨#[]⟩, .int .i64 10]) ∧ Below w.heap.size w w' :=
  (unquote_any s w hmax).mono fun e w' ⟨he, hb⟩ => ⟨by
    rcases he with ⟨t', ht', _⟩ | ⟨_, he⟩
    · exact absurd ht' (hno t')
    · exact he, hb⟩

set_option maxHeartbeats 400000 in
theorem read_word (s : ByteArray) (t : List UInt8) (w : World) (ht : s.data.toList = quoteL t) (hmax : s.size ≤ 100000000000000) :
    Calls Tryd.prog 112 #[.string s] w fun e w' => e = .returned (.tuple #[.agg #[.int .i64 2, .int .i64 0, .string ⟨t.toArray⟩], .bool true]) ∧ Below w.heap.size w w' := by
  have hpre := Tryd.strings_HasPrefix s ⟨#[34]⟩
  rw [show (ByteArray.mk #[34]).data.toList = [34] from rfl, ht, quote_quote] at hpre
  have hq := fun w => unq_yes s t ht w hmax
  clear ht
  go_enter Tryd.func112, Tryd.ntmps112
  go_wp2_with (first
    | (go_at_call 119; refine (hpre _).mono ?_; rintro e w' ⟨rfl, rfl⟩)
    | (go_at_call 120; refine (hq _).mono ?_; rintro e w1 ⟨rfl, hb⟩; obtain ⟨hcell, hfr⟩ := bcell hb; simp at hcell hfr))
  refine bodyPost_ret (v := .tuple #[.agg #[.int .i64 2, .int .i64 0, .string ⟨t.toArray⟩], .bool true]) (by simp [results, Tryd.results112, go_sem, hcell]) rfl ⟨rfl, ?_⟩
  exact below_st3 hb _ _ _

set_option maxHeartbeats 400000 in
theorem read_noword (s : ByteArray) (w : World) (hp : Lib.hasPrefix s.data.toList [34] = true) (hno : ∀ t, s.data.toList ≠ quoteL t) (hmax : s.size ≤ 100000000000000) :
    Calls Tryd.prog 112 #[.string s] w fun e w' => e = .returned (.tuple #[.agg #[.int .i64 2, .int .i64 0, .string ⟨#[]⟩], .bool false]) ∧ Below w.heap.size w w' := by
  have hpre := Tryd.strings_HasPrefix s ⟨#[34]⟩
  rw [show (ByteArray.mk #[34]).data.toList = [34] from rfl, hp] at hpre
  have hq := fun w => unq_no s hno w hmax
  clear hno hp
  go_enter Tryd.func112, Tryd.ntmps112
  go_wp2_with (first
    | (go_at_call 119; refine (hpre _).mono ?_; rintro e w' ⟨rfl, rfl⟩)
    | (go_at_call 120; refine (hq _).mono ?_; rintro e w1 ⟨rfl, hb⟩; obtain ⟨hcell, hfr⟩ := bcell hb; simp at hcell hfr))
  refine bodyPost_ret (v := .tuple #[.agg #[.int .i64 2, .int .i64 0, .string ⟨#[]⟩], .bool false]) (by simp [results, Tryd.results112, go_sem, hcell]) rfl ⟨rfl, ?_⟩
  exact below_st3 hb _ _ _

set_option maxHeartbeats 400000 in
theorem parse_hit (s : ByteArray) (k v : Int) (x : ByteArray) (w : World) (hG : G w)
    (hr : ∀ w, G w → Calls Tryd.prog 112 #[.string s] w fun e w' => e = .returned (.tuple #[.agg #[.int .i64 k, .int .i64 v, .string x], .bool true]) ∧ Below w.heap.size w w') (ht : textB k v x = s) (hc : chkV k v x = 0) :
    Calls Tryd.prog 91 #[.string s] w fun e w' => e = .returned (.tuple #[.agg #[.int .i64 k, .int .i64 v, .string x], .int .i64 0]) ∧ Below w.heap.size w w' := by
  have htx := text_any k v x
  rw [ht, hc] at htx
  clear ht hc
  go_enter Tryd.func91, Tryd.ntmps91
  go_wp2_with (first
    | (go_at_call 112; refine (hr _ (by exact G_alloc hG _)).mono ?_; rintro e w1 ⟨rfl, hb⟩; obtain ⟨hcell, hfr⟩ := bcell hb; simp at hcell hfr; have hz : w.heap.size < w1.heap.size := (by have := hb.size; simp at this; omega))
    | (go_at_call 31; refine (htx _ (by exact G_alloc (G_below (G_alloc hG _) hb) _)).mono ?_; rintro e w2 ⟨rfl, hb2⟩; obtain ⟨hcell2, hfr2⟩ := bcell hb2; simp at hcell2 hfr2; have hz2 : w.heap.size < w1.heap.size + 1 := (by omega)))
  refine bodyPost_ret (v := .tuple #[.agg #[.int .i64 k, .int .i64 v, .string x], .int .i64 0]) (by simp [results, Tryd.results91, go_sem, hcell, hcell2, hz, hz2]) rfl ⟨rfl, ?_⟩
  exact below_st3 (below_sub (below_sub hb ((Below.refl _ _).alloc (Nat.le_refl _) _)) hb2) _ _ _

set_option maxHeartbeats 400000 in
theorem parse_form (s : ByteArray) (k v : Int) (x : ByteArray) (w : World) (hG : G w)
    (hr : ∀ w, G w → Calls Tryd.prog 112 #[.string s] w fun e w' => e = .returned (.tuple #[.agg #[.int .i64 k, .int .i64 v, .string x], .bool true]) ∧ Below w.heap.size w w') (hc : chkV k v x = 1) :
    Calls Tryd.prog 91 #[.string s] w fun e w' => e = .returned (.tuple #[.agg #[.int .i64 0, .int .i64 0, .string ⟨#[]⟩], .int .i64 10]) ∧ Below w.heap.size w w' := by
  have htx := text_any k v x
  generalize textB k v x = tt at htx
  rw [hc] at htx
  clear hc
  go_enter Tryd.func91, Tryd.ntmps91
  go_wp2_with (first
    | (go_at_call 112; refine (hr _ (by exact G_alloc hG _)).mono ?_; rintro e w1 ⟨rfl, hb⟩; obtain ⟨hcell, hfr⟩ := bcell hb; simp at hcell hfr; have hz : w.heap.size < w1.heap.size := (by have := hb.size; simp at this; omega))
    | (go_at_call 31; refine (htx _ (by exact G_alloc (G_below (G_alloc hG _) hb) _)).mono ?_; rintro e w2 ⟨rfl, hb2⟩; obtain ⟨hcell2, hfr2⟩ := bcell hb2; simp at hcell2 hfr2; have hz2 : w.heap.size < w1.heap.size + 1 := (by omega)))
  refine bodyPost_ret (v := .tuple #[.agg #[.int .i64 0, .int .i64 0, .string ⟨#[]⟩], .int .i64 10]) (by simp [results, Tryd.results91, go_sem, hcell, hcell2, hz, hz2]) rfl ⟨rfl, ?_⟩
  exact below_st3 (below_sub (below_sub hb ((Below.refl _ _).alloc (Nat.le_refl _) _)) hb2) _ _ _

set_option maxHeartbeats 400000 in
theorem parse_miss (s : ByteArray) (k : Int) (x : ByteArray) (w : World) (hG : G w)
    (hr : ∀ w, G w → Calls Tryd.prog 112 #[.string s] w fun e w' => (∃ v, e = .returned (.tuple #[.agg #[.int .i64 k, .int .i64 v, .string x], .bool false])) ∧ Below w.heap.size w w') :
    Calls Tryd.prog 91 #[.string s] w fun e w' => e = .returned (.tuple #[.agg #[.int .i64 0, .int .i64 0, .string ⟨#[]⟩], .int .i64 10]) ∧ Below w.heap.size w w' := by
  go_enter Tryd.func91, Tryd.ntmps91
  go_wp2_with (go_at_call 112; refine (hr _ (by exact G_alloc hG _)).mono ?_; rintro e w1 ⟨⟨v, rfl⟩, hb⟩; obtain ⟨hcell, hfr⟩ := bcell hb; simp at hcell hfr; have hz : w.heap.size < w1.heap.size := (by have := hb.size; simp at this; omega))
  refine bodyPost_ret (v := .tuple #[.agg #[.int .i64 0, .int .i64 0, .string ⟨#[]⟩], .int .i64 10]) (by simp [results, Tryd.results91, go_sem, hcell, hz]) rfl ⟨rfl, ?_⟩
  exact (below_st3 hb _ _ _).alloc (below_st3 hb _ _ _).size _

theorem bytes_of_size {s : ByteArray} (h : s.size = 0) : s = ⟨#[]⟩ := by
  apply WideShapes.bytes_inj
  have : s.data.toList = [] := by rw [← List.length_eq_zero_iff]; simpa using h
  rw [this]
theorem bytes_list (s : ByteArray) : (⟨s.data.toList.toArray⟩ : ByteArray) = s := by simp
/-- A value in form is read back from its text. -/
theorem parse_text (k n : Int) (s : ByteArray) (hc : chkV k n s = 0) (w : World) (hG : G w) :
    Calls Tryd.prog 91 #[.string (textB k n s)] w fun e w' => e = .returned (.tuple #[.agg #[.int .i64 k, .int .i64 n, .string s], .int .i64 0]) ∧ Below w.heap.size w w' := by
  rcases chk_range hc with ⟨rfl, h1, h2, h3⟩ | ⟨rfl, rfl, h3⟩
  · obtain rfl := bytes_of_size h3
    have ht : textB 1 n ⟨#[]⟩ = itoaB n := by unfold textB; rw [if_pos hc, if_neg (by decide)]
    have hl : (itoaB n).data.toList = Lib.itoa n := rfl
    have hlen := itoa_len n (by omega) (by omega)
    have hsz : (itoaB n).size ≤ 21 := by
      have : (itoaB n).size = (Lib.itoa n).length := by simp [itoaB, ByteArray.size]
      omega
    refine parse_hit _ 1 n ⟨#[]⟩ w hG (fun w _ => ?_) rfl hc
    rw [ht]
    exact read_num _ n w (by rw [hl]; exact itoa_noquote n) (by omega) (by rw [hl]; exact atoi_itoa n (by omega) (by omega))
  · have ht : textB 2 0 s = quoteB s := by unfold textB; rw [if_pos hc, if_pos rfl]
    have hl : (quoteB s).data.toList = quoteL s.data.toList := rfl
    have hsz : (quoteB s).size ≤ 1000 := by
      have e : (quoteB s).size = (quoteL s.data.toList).length := by simp [quoteB, ByteArray.size]
      have := escs_le s.data.toList
      simp only [Array.length_toList] at this
      have h4 : s.data.size = s.size := rfl
      simp only [quoteL, List.cons_append, List.length_cons, List.length_append, List.length_nil] at e
      omega
    refine parse_hit _ 2 0 s w hG (fun w _ => ?_) rfl hc
    rw [ht]
    have := read_word (quoteB s) s.data.toList w hl (by omega)
    rw [bytes_list] at this
    exact this
end Go.Proofs.YtpgknpoolkbboaaDoor
