/- The tokens that are left from a place on. -/
import Derived.Test.YtpgknpoolkbboaaDoorLexWritten
namespace Go.Proofs.YtpgknpoolkbboaaDoor
open Go.RowKit

/-- From the place k on the tokens l are left, and the text ends with them. -/
def ToGo (s : ByteArray) (k : Nat) (l : List Tok) : Prop := k ≤ s.size ∧ toksL (s.data.toList.drop k) k = (l, none)
theorem ToGo.first {s : ByteArray} {l : List Tok} (h : toksL s.data.toList 0 = (l, none)) : ToGo s 0 l := ⟨Nat.zero_le _, by simpa using h⟩
theorem ToGo.next {s : ByteArray} {k : Nat} {x : Tok} {l : List Tok} (h : ToGo s k (x :: l)) :
    ∃ b n : Nat, x.2.1 = ((k + b : Nat) : Int) ∧ x.2.2.1 = ((k + b + n : Nat) : Int) ∧ 0 < n ∧ k + b + n ≤ s.size ∧ (∀ c ∈ (s.data.toList.drop k).take b, isBlank (c.toNat : Int) = true) ∧ tokL (s.data.toList.drop (k + b)) = some (x.1, n, x.2.2.2.1, x.2.2.2.2) ∧ ToGo s (k + b + n) l := by
  obtain ⟨h1, h2⟩ := h
  have hb := rl_le isBlank (s.data.toList.drop k)
  have hsz : s.data.size = s.size := rfl
  by_cases he : (s.data.toList.drop k).length ≤ rl isBlank (s.data.toList.drop k)
  · rw [toksL_end he] at h2; simp at h2
  · cases ht : tokL ((s.data.toList.drop k).drop (rl isBlank (s.data.toList.drop k))) with
    | none => rw [toksL_bad he ht] at h2; simp at h2
    | some q =>
      obtain ⟨kd, n, v, t⟩ := q
      have hn := tokL_len ht
      rw [toksL_step he ht] at h2
      simp only [List.drop_drop] at h2 ht hn
      simp only [List.length_drop, Array.length_toList] at hn
      simp only [Prod.mk.injEq, List.cons.injEq] at h2
      obtain ⟨⟨rfl, h3⟩, h4⟩ := h2
      refine ⟨rl isBlank (s.data.toList.drop k), n, rfl, rfl, hn.1, by omega, rl_mem _, ht, by omega, ?_⟩
      exact Prod.ext_iff.2 ⟨h3, h4⟩
theorem ToGo.last {s : ByteArray} {k : Nat} (h : ToGo s k []) : ∀ c ∈ s.data.toList.drop k, isBlank (c.toNat : Int) = true := by
  obtain ⟨h1, h2⟩ := h
  by_cases he : (s.data.toList.drop k).length ≤ rl isBlank (s.data.toList.drop k)
  · have := rl_mem (p := isBlank) (s.data.toList.drop k)
    rw [List.take_of_length_le he] at this
    exact this
  · cases ht : tokL ((s.data.toList.drop k).drop (rl isBlank (s.data.toList.drop k))) with
    | none => rw [toksL_bad he ht] at h2; simp at h2
    | some q =>
      obtain ⟨kd, n, v, t⟩ := q
      rw [toksL_step he ht] at h2
      simp at h2
end Go.Proofs.YtpgknpoolkbboaaDoor
