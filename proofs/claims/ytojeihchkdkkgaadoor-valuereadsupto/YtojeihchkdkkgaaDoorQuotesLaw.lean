/- The law ValueQuotes returns true at every text that is not too long. -/
import Derived.Test.YtojeihchkdkkgaaDoorLoose
import Derived.Test.YtojeihchkdkkgaaDoorParse
import Derived.Test.YtojeihchkdkkgaaDoorFixed
namespace Go.Proofs.YtojeihchkdkkgaaDoor
open Go.RowKit

theorem loose_len (s : ByteArray) : (loL s.data.toList.tail).length ≤ s.size := by
  have := lo_len s.data.toList.tail.length s.data.toList.tail
  unfold loL
  simp only [List.length_tail, Array.length_toList] at this ⊢
  have h : s.data.size = s.size := rfl
  omega
theorem toList_eq {a b : ByteArray} (h : a = b) : (a.toList == b.toList) = true := by subst h; simp
theorem loose_yes (s : ByteArray) (t : List UInt8) (ht : s.data.toList = quoteL t) : loL s.data.toList.tail = t := by
  rw [ht, ← List.drop_one]; exact loose_quote t

set_option maxHeartbeats 400000 in
theorem refUnq_yes (s : ByteArray) (t : List UInt8) (ht : s.data.toList = quoteL t) (w : World) (hmax : s.size ≤ 100000000000) :
    Calls Tryd.prog 20 #[.string s] w fun e w' => e = .returned (.tuple #[.string ⟨t.toArray⟩, .int .i64 0]) ∧ Below w.heap.size w w' := by
  have hlo := fun w => loose_any s w hmax
  have hll := loose_len s
  rw [loose_yes s t ht] at hlo hll
  have hsz : (⟨t.toArray⟩ : ByteArray).size ≤ 1000000000000 := by
    have : (⟨t.toArray⟩ : ByteArray).size = t.length := by simp [ByteArray.size]
    omega
  have hq := fun w => refQuote_any ⟨t.toArray⟩ w hsz
  have heq : quoteB ⟨t.toArray⟩ = s := WideShapes.bytes_inj (by rw [ht]; rfl)
  rw [heq] at hq
  clear heq hsz hll ht
  go_enter Tryd.func20, Tryd.ntmps20
  go_wp2_with (first
    | (go_at_call 34; refine (hlo _).mono ?_; rintro e w1 ⟨rfl, hb⟩)
    | (go_at_call 19; refine (hq _).mono ?_; rintro e w2 ⟨rfl, hb2⟩))
  go_ret2
  exact ⟨rfl, below_sub hb hb2⟩

set_option maxHeartbeats 400000 in
theorem refUnq_no (s : ByteArray) (hno : ∀ t, s.data.toList ≠ quoteL t) (w : World) (hmax : s.size ≤ 100000000000) :
    Calls Tryd.prog 20 #[.string s] w fun e w' => e = .returned (.tuple #[.string ⟨#[]⟩, .int .i64 10]) ∧ Below w.heap.size w w' := by
  have hlo := fun w => loose_any s w hmax
  have hll := loose_len s
  generalize loL s.data.toList.tail = t at hlo hll
  have hsz : (⟨t.toArray⟩ : ByteArray).size ≤ 1000000000000 := by
    have : (⟨t.toArray⟩ : ByteArray).size = t.length := by simp [ByteArray.size]
    omega
  have hq := fun w => refQuote_any ⟨t.toArray⟩ w hsz
  have hne : quoteB ⟨t.toArray⟩ ≠ s := fun h => hno t (by rw [← h]; rfl)
  have hd := toList_ne hne
  generalize quoteB ⟨t.toArray⟩ = Q at hq hd
  clear hne hsz hll hno
  go_enter Tryd.func20, Tryd.ntmps20
  go_wp2_with (first
    | (go_at_call 34; refine (hlo _).mono ?_; rintro e w1 ⟨rfl, hb⟩)
    | (go_at_call 19; refine (hq _).mono ?_; rintro e w2 ⟨rfl, hb2⟩))
  go_ret2
  exact ⟨rfl, below_sub hb hb2⟩
theorem quoteB_size (s : ByteArray) : (quoteB s).size ≤ 4 * s.size + 2 := by
  have e : (quoteB s).size = (quoteL s.data.toList).length := by simp [quoteB, ByteArray.size]
  have := escs_le s.data.toList
  simp only [Array.length_toList] at this
  have h4 : s.data.size = s.size := rfl
  simp only [quoteL, List.cons_append, List.length_cons, List.length_append, List.length_nil] at e
  omega
theorem quoteL_ge (t : List UInt8) : t.length ≤ (quoteL t).length := by
  have := escs_ge t
  simp only [quoteL, List.cons_append, List.length_cons, List.length_append, List.length_nil]; omega

set_option maxHeartbeats 1000000 in
theorem quotes_yes (s : ByteArray) (t : List UInt8) (ht : s.data.toList = quoteL t) (w : World) (hG : G w) (hs : s.size ≤ 1048576) :
    Calls Tryd.prog 4 #[.string s] w fun e w' => e = .returned (.bool true) ∧ Below w.heap.size w w' := by
  have hfx := fixed_any w hG
  have hq1 := fun w => quote_at s w (by omega)
  have hr1 := fun w => refQuote_any s w (by omega)
  have hu1 := fun w => unq_yes (quoteB s) s.data.toList rfl w (by have := quoteB_size s; omega)
  rw [bytes_list] at hu1
  have htl : t.length ≤ s.size := by
    have := quoteL_ge t
    rw [← ht] at this
    simpa using this
  have hsz : (⟨t.toArray⟩ : ByteArray).size ≤ 1000000000000 := by
    have : (⟨t.toArray⟩ : ByteArray).size = t.length := by simp [ByteArray.size]
    omega
  have hq2 := fun w => quote_at ⟨t.toArray⟩ w hsz
  have heq : quoteB ⟨t.toArray⟩ = s := WideShapes.bytes_inj (by rw [ht]; rfl)
  rw [heq] at hq2
  have hu2 := fun w => unq_yes s t ht w (by omega)
  have hr2 := fun w => refUnq_yes s t ht w (by omega)
  clear heq hsz htl ht
  generalize quoteB s = Q at hq1 hr1 hu1
  go_enter Tryd.func4, Tryd.ntmps4
  go_wp2_with (first
    | (go_at_call 9; refine hfx.mono ?_; rintro e w0 ⟨rfl, b0⟩; have B0 := hide b0; clear b0)
    | (go_at_call_of 17 (Value.string s); refine (hq1 _).mono ?_; rintro e w1 ⟨rfl, b1⟩; have B1 := hide (below_sub (unhide B0) b1); clear b1)
    | (go_at_call_of 18 (Value.string Q); refine (hu1 _).mono ?_; rintro e w2 ⟨rfl, b2⟩; have B2 := hide (below_sub (unhide B1) b2); clear b2)
    | (go_at_call 19; refine (hr1 _).mono ?_; rintro e w3 ⟨rfl, b3⟩; have B3 := hide (below_sub (unhide B2) b3); clear b3)
    | (go_at_call_of 18 (Value.string s); refine (hu2 _).mono ?_; rintro e w4 ⟨rfl, b4⟩; have B4 := hide (below_sub (unhide B3) b4); clear b4)
    | (go_at_call 20; refine (hr2 _).mono ?_; rintro e w5 ⟨rfl, b5⟩; have B5 := hide (below_sub (unhide B4) b5); clear b5)
    | (go_at_call_of 17 (Value.string ⟨t.toArray⟩); refine (hq2 _).mono ?_; rintro e w6 ⟨rfl, b6⟩; have B6 := hide (below_sub (unhide B5) b6); clear b6))
  go_ret
  exact ⟨ret_bool (by simp), unhide B6⟩

set_option maxHeartbeats 1000000 in
theorem quotes_no (s : ByteArray) (hno : ∀ t, s.data.toList ≠ quoteL t) (w : World) (hG : G w) (hs : s.size ≤ 1048576) :
    Calls Tryd.prog 4 #[.string s] w fun e w' => e = .returned (.bool true) ∧ Below w.heap.size w w' := by
  have hfx := fixed_any w hG
  have hq1 := fun w => quote_at s w (by omega)
  have hr1 := fun w => refQuote_any s w (by omega)
  have hu1 := fun w => unq_yes (quoteB s) s.data.toList rfl w (by have := quoteB_size s; omega)
  rw [bytes_list] at hu1
  have hu2 := fun w => unq_no s hno w (by omega)
  have hr2 := fun w => refUnq_no s hno w (by omega)
  clear hno
  generalize quoteB s = Q at hq1 hr1 hu1
  go_enter Tryd.func4, Tryd.ntmps4
  go_wp2_with (first
    | (go_at_call 9; refine hfx.mono ?_; rintro e w0 ⟨rfl, b0⟩; have B0 := hide b0; clear b0)
    | (go_at_call_of 17 (Value.string s); refine (hq1 _).mono ?_; rintro e w1 ⟨rfl, b1⟩; have B1 := hide (below_sub (unhide B0) b1); clear b1)
    | (go_at_call_of 18 (Value.string Q); refine (hu1 _).mono ?_; rintro e w2 ⟨rfl, b2⟩; have B2 := hide (below_sub (unhide B1) b2); clear b2)
    | (go_at_call 19; refine (hr1 _).mono ?_; rintro e w3 ⟨rfl, b3⟩; have B3 := hide (below_sub (unhide B2) b3); clear b3)
    | (go_at_call_of 18 (Value.string s); refine (hu2 _).mono ?_; rintro e w4 ⟨rfl, b4⟩; have B4 := hide (below_sub (unhide B3) b4); clear b4)
    | (go_at_call 20; refine (hr2 _).mono ?_; rintro e w5 ⟨rfl, b5⟩; have B5 := hide (below_sub (unhide B4) b5); clear b5))
  go_ret
  exact ⟨ret_bool (by simp), unhide B5⟩

theorem valueQuotes_any (s : ByteArray) (w : World) (hG : G w) (hs : s.size ≤ 1048576) :
    Calls Tryd.prog 4 #[.string s] w fun e w' => e = .returned (.bool true) ∧ Below w.heap.size w w' := by
  by_cases h : ∃ t, s.data.toList = quoteL t
  · obtain ⟨t, ht⟩ := h
    exact quotes_yes s t ht w hG hs
  · exact quotes_no s (fun t ht => h ⟨t, ht⟩) w hG hs
end Go.Proofs.YtojeihchkdkkgaaDoor
