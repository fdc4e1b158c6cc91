/- The law ValueQuotes returns true at every text that is not too long. -/
import Derived.Test.YtpgknpoolkbboaaDoorLoose
import Derived.Test.YtpgknpoolkbboaaDoorParse
namespace Go.Proofs.YtpgknpoolkbboaaDoor
open Go.RowKit

theorem loose_len (s : ByteArray) : (loL s.data.toList.tail).length ≤ s.size := by
  have := lo_len s.data.toList.tail.length s.data.toList.tail
  unfold loL
  simp only [List.length_tail, Array.length_toList] at this ⊢
  have h : s.data.size = s.size := rfl
  omega
theorem toList_eq {a b : ByteArray} (h : a = b) : (a.toList == b.toList) = true := by subst h; simp
theorem loose_yes (s : ByteArray) (t : List UInt8) (ht : s.data.toList = quoteL t) : loL s.data.toList.tail = t := by
  rw [ht, ← List.drop_one]; exact loose_quote t

set_option maxHeartbeats 400000 in
theorem refUnq_yes (s : ByteArray) (t : List UInt8) (ht : s.data.toList = quoteL t) (w : World) (hmax : s.size ≤ 100000000000) :
    Calls Tryd.prog 95 #[.string s] w fun e w' => e = .returned (.tuple #[.string ⟨t.toArray⟩, .int .i64 0]) ∧ Below w.heap.size w w' := by
  have hlo := fun w => loose_any s w hmax
  have hll := loose_len s
  rw [loose_yes s t ht] at hlo hll
  have hsz : (⟨t.toArray⟩ : ByteArray).size ≤ 1000000000000 := by
    have : (⟨t.toArray⟩ : ByteArray).size = t.length := by simp [ByteArray.size]
    omega
  have hq := fun w => refQuote_any ⟨t.toArray⟩ w hsz
  have heq : quoteB ⟨t.toArray⟩ = s := WideShapes.bytes_inj (by rw [ht]; rfl)
  rw [heq] at hq
  clear heq hsz hll ht
  go_enter Tryd.func95, Tryd.ntmps95
  go_wp2_with (first
    | (go_at_call 114; refine (hlo _).mono ?_; rintro e w1 ⟨rfl, hb⟩)
    | (go_at_call 115; refine (hq _).mono ?_; rintro e w2 ⟨rfl, hb2⟩))
  go_ret2
  exact ⟨rfl, below_sub hb hb2⟩

set_option maxHeartbeats 400000 in
theorem refUnq_no (s : ByteArray) (hno : ∀ t, s.data.toList ≠ quoteL t) (w : World) (hmax : s.size ≤ 100000000000) :
    Calls Tryd.prog 95 #[.string s] w fun e w' => e = .returned (.tuple #[.string ⟨#[]⟩, .int .i64 10]) ∧ Below w.heap.size w w' := by
  have hlo := fun w => loose_any s w hmax
  have hll := loose_len s
  generalize loL s.data.toList.tail = t at hlo hll
  have hsz : (⟨t.toArray⟩ : ByteArray).size ≤ 1000000000000 := by
    have : (⟨t.toArray⟩ : ByteArray).size = t.length := by simp [ByteArray.size]
    omega
  have hq := fun w => refQuote_any ⟨t.toArray⟩ w hsz
  have hne : quoteB ⟨t.toArray⟩ ≠ s := fun h => hno t (by rw [← h]; rfl)
  have hd := toList_ne hne
  generalize quoteB ⟨t.toArray⟩ = Q at hq hd
  clear hne hsz hll hno
  go_enter Tryd.func95, Tryd.ntmps95
  go_wp2_with (first
    | (go_at_call 114; refine (hlo _).mono ?_; rintro e w1 ⟨rfl, hb⟩)
    | (go_at_call 115; refine (hq _).mono ?_; rintro e w2 ⟨rfl, hb2⟩))
  go_ret2
  exact ⟨rfl, below_sub hb hb2⟩
theorem quoteB_size (s : ByteArray) : (quoteB s).size ≤ 4 * s.size + 2 := by
  have e : (quoteB s).size = (quoteL s.data.toList).length := by simp [quoteB, ByteArray.size]
  have := escs_le s.data.toList
  simp only [Array.length_toList] at this
  have h4 : s.data.size = s.size := rfl
  simp only [quoteL, List.cons_append, List.length_cons, List.length_append, List.length_nil] at e
  omega
theorem quoteL_ge (t : List UInt8) : t.length ≤ (quoteL t).length := by
  have := escs_ge t
  simp only [quoteL, List.cons_append, List.length_cons, List.length_append, List.length_nil]; omega

end Go.Proofs.YtpgknpoolkbboaaDoor
