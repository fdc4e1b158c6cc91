/- What is pushed: in form, pushed, the same again; its truth and its weight. -/
import Derived.Test.YtcjkjhblmalbhaaPushAll
import Derived.Test.YtcjkjhblmalbhaaEvEval
namespace Go.Proofs.Ytcjkjhblmalbhaa
open Go.RowKit Go.Sort

theorem zero8 : zeroB 0 ⟨#[]⟩ 0 0 0 0 = true := by decide +kernel
theorem chk_lit {kind : Int} {attr : ByteArray} {ints : List Int} {words : List ByteArray} {lo hi : Int} (neg : Bool) (h : predB kind attr ints words lo hi = true) : chkN (litT kind attr ints words lo hi neg) = true := by
  have h1 : chkN (.mk kind attr ints words lo hi 1 []) = true := by simp [chkN, nodeB, h, chkL]
  cases neg
  · simpa [litT] using h1
  · simp [litT, notT, chkN, nodeB, chkL, h, zero8]
theorem downL_mem {l : List Nd} {neg : Bool} {y : Nd} (h : y ∈ downL l neg) : ∃ x ∈ l, y = downN x neg := by
  rw [downL_map] at h
  obtain ⟨x, hx, rfl⟩ := List.mem_map.1 h
  exact ⟨x, hx, rfl⟩
theorem chkL_of {l : List Nd} (h : ∀ x ∈ l, chkN x = true) : chkL l = true := by
  induction l with
  | nil => rfl
  | cons x l ih => simp [chkL, h x (by simp), ih fun y hy => h y (by simp [hy])]
theorem atL_of {l : List Nd} (h : ∀ x ∈ l, atN x = true) : atL l = true := by
  induction l with
  | nil => rfl
  | cons x l ih => simp [atL, h x (by simp), ih fun y hy => h y (by simp [hy])]
theorem op2_34 {op : Int} (h : op = 3 ∨ op = 4) (neg : Bool) : ((if neg then otherI op else op) = 3 ∨ (if neg then otherI op else op) = 4) := by
  rcases h with rfl | rfl <;> cases neg <;> simp [otherI]
theorem down_34 {kind lo hi op : Int} {attr : ByteArray} {ints : List Int} {words : List ByteArray} {kids : List Nd} (ho : op = 3 ∨ op = 4) (neg : Bool) : downN (.mk kind attr ints words lo hi op kids) neg = .mk 0 ⟨#[]⟩ [] [] 0 0 (if neg then otherI op else op) (downL kids neg) := by
  have n1 : ¬ op = 1 := by omega
  have n2 : ¬ op = 2 := by omega
  simp only [downN, if_neg n1, if_neg n2]
theorem chk_down : ∀ (t : Nd) (neg : Bool), chkN t = true → chkN (downN t neg) = true := by
  intro t
  induction t using Nd.ind with
  | h kind attr ints words lo hi op kids ih =>
    intro neg hc
    rcases chk_parts hc with ⟨rfl, rfl, hp⟩ | ⟨rfl, ⟨x, rfl, hx⟩, _⟩ | ⟨ho, h2, hl, _⟩
    · simpa [downN] using chk_lit neg hp
    · simpa [downN, downH] using ih x (by simp) (!neg) hx
    · rw [down_34 ho]
      have h3 := op2_34 ho neg
      generalize (if neg = true then otherI op else op) = op2 at h3
      have hL : chkL (downL kids neg) = true := chkL_of fun y hy => by
        obtain ⟨x, hx, rfl⟩ := downL_mem hy
        exact ih x hx neg (chkL_all hl x hx)
      have hlen : 2 ≤ (downL kids neg).length := by rw [downL_len]; exact h2
      rcases h3 with rfl | rfl <;> simp [chkN, nodeB, zero8, hL, hlen]
theorem op_lit {kind : Int} {attr : ByteArray} {ints : List Int} {words : List ByteArray} {lo hi : Int} (neg : Bool) : atN (litT kind attr ints words lo hi neg) = true := by
  cases neg <;> simp [litT, notT, atN, atL, headPred, opN]
theorem at_down : ∀ (t : Nd) (neg : Bool), chkN t = true → atN (downN t neg) = true := by
  intro t
  induction t using Nd.ind with
  | h kind attr ints words lo hi op kids ih =>
    intro neg hc
    rcases chk_parts hc with ⟨rfl, rfl, hp⟩ | ⟨rfl, ⟨x, rfl, hx⟩, _⟩ | ⟨ho, h2, hl, _⟩
    · simpa [downN] using op_lit neg
    · simpa [downN, downH] using ih x (by simp) (!neg) hx
    · rw [down_34 ho]
      have h3 := op2_34 ho neg
      generalize (if neg = true then otherI op else op) = op2 at h3
      have n2 : ¬ op2 = 2 := by omega
      simp only [atN, if_neg n2]
      exact atL_of fun y hy => by
        obtain ⟨x, hx, rfl⟩ := downL_mem hy
        exact ih x hx neg (chkL_all hl x hx)
/-- Pushing again changes nothing. -/
theorem down_again : ∀ (t : Nd) (neg : Bool), chkN t = true → downN (downN t neg) false = downN t neg := by
  intro t
  induction t using Nd.ind with
  | h kind attr ints words lo hi op kids ih =>
    intro neg hc
    rcases chk_parts hc with ⟨rfl, rfl, hp⟩ | ⟨rfl, ⟨x, rfl, hx⟩, _⟩ | ⟨ho, h2, hl, _⟩
    · cases neg <;> simp [downN, litT, notT, downH]
    · simpa [downN, downH] using ih x (by simp) (!neg) hx
    · rw [down_34 ho]
      have h3 := op2_34 ho neg
      generalize (if neg = true then otherI op else op) = op2 at h3
      rw [down_34 h3]
      have : downL (downL kids neg) false = downL kids neg := by
        rw [downL_map, downL_map, List.map_map]
        apply List.map_congr_left
        intro x hx
        exact ih x hx neg (chkL_all hl x hx)
      rw [this]; rfl
theorem down_notT (t : Nd) : downN (notT t) false = downN t true := by simp [notT, downN, downH]
theorem down_twice (t : Nd) : downN (notT (notT t)) false = downN t false := by simp [notT, downN, downH]
theorem any_down (ev : List Pr) (l : List Nd) (h : ∀ x ∈ l, ∀ neg, truN ev (downN x neg) = (truN ev x != neg)) : anyT ev (downL l false) = anyT ev l ∧ allT ev (downL l false) = allT ev l ∧ anyT ev (downL l true) = !(allT ev l) ∧ allT ev (downL l true) = !(anyT ev l) := by
  induction l with
  | nil => simp [downL, anyT, allT]
  | cons x l ih =>
    obtain ⟨i1, i2, i3, i4⟩ := ih fun y hy => h y (by simp [hy])
    have a := h x (by simp) false
    have b := h x (by simp) true
    simp only [downL, anyT, allT, i1, i2, i3, i4, a, b]
    cases truN ev x <;> cases anyT ev l <;> cases allT ev l <;> simp
/-- The truth of what is pushed. -/
theorem tru_down (ev : List Pr) : ∀ (t : Nd) (neg : Bool), chkN t = true → truN ev (downN t neg) = (truN ev t != neg) := by
  intro t
  induction t using Nd.ind with
  | h kind attr ints words lo hi op kids ih =>
    intro neg hc
    rcases chk_parts hc with ⟨rfl, rfl, hp⟩ | ⟨rfl, ⟨x, rfl, hx⟩, _⟩ | ⟨ho, h2, hl, _⟩
    · cases neg <;> simp [downN, litT, notT, truN, anyT]
    · have := ih x (by simp) (!neg) hx
      have n21 : ¬ (2 : Int) = 1 := by decide
      simp only [downN, downH, truN, anyT, Bool.or_false, if_neg n21, if_true]
      rw [this]
      cases truN ev x <;> cases neg <;> rfl
    · obtain ⟨i1, i2, i3, i4⟩ := any_down ev kids fun x hx neg => ih x hx neg (chkL_all hl x hx)
      rw [down_34 ho]
      rcases ho with rfl | rfl <;> cases neg <;> simp [truN, otherI, i1, i2, i3, i4]
theorem wt_pos (t : Nd) : 1 ≤ wtN t := by cases t; simp only [wtN]; omega
theorem wt_down : ∀ (t : Nd) (neg : Bool), chkN t = true → wtN (downN t neg) ≤ 2 * wtN t := by
  intro t
  induction t using Nd.ind with
  | h kind attr ints words lo hi op kids ih =>
    intro neg hc
    have e : (⟨#[]⟩ : ByteArray).size = 0 := rfl
    rcases chk_parts hc with ⟨rfl, rfl, hp⟩ | ⟨rfl, ⟨x, rfl, hx⟩, _⟩ | ⟨ho, h2, hl, _⟩
    · cases neg <;> simp only [downN, litT, notT, wtN, wtL, wordsWt, List.length_nil, e, if_true, if_false, Bool.false_eq_true] <;> omega
    · have := ih x (by simp) (!neg) hx
      simp only [downN, downH, wtN, wtL, if_true]
      rw [if_neg (by omega)]
      omega
    · rw [down_34 ho]
      have hL : wtL (downL kids neg) ≤ 2 * wtL kids := by
        have hh : ∀ x ∈ kids, wtN (downN x neg) ≤ 2 * wtN x := fun x hx => ih x hx neg (chkL_all hl x hx)
        clear ih hl h2 hc ho
        induction kids with
        | nil => simp [downL, wtL]
        | cons x l ih2 =>
          have h1 := hh x (by simp)
          have h3 := ih2 fun y hy => hh y (by simp [hy])
          simp only [downL, wtL]; omega
      simp only [wtN, wordsWt, List.length_nil, e]
      omega
end Go.Proofs.Ytcjkjhblmalbhaa
