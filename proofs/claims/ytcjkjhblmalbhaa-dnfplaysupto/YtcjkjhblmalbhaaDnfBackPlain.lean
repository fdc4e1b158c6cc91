/- Conjunctions come back from their tree: the plain part. -/
import Derived.Test.YtcjkjhblmalbhaaDnfTree
import Derived.Test.YtcjkjhblmalbhaaDnfExpand
namespace Go.Proofs.Ytcjkjhblmalbhaa
open Go.RowKit Go.Sort

theorem zero_parts {kind : Int} {attr : ByteArray} {ints : List Int} {words : List ByteArray} {lo hi : Int} (h : zeroB kind attr ints.length words.length lo hi = true) : kind = 0 ∧ attr = ⟨#[]⟩ ∧ ints = [] ∧ words = [] ∧ lo = 0 ∧ hi = 0 := by
  unfold zeroB at h
  simp only [emptyB, Bool.and_eq_true, decide_eq_true_eq] at h
  obtain ⟨h1, h2, h3, h4, h5, h6⟩ := h
  exact ⟨h1, bytes_of_size h2, List.length_eq_zero_iff.1 h3, List.length_eq_zero_iff.1 h4, h5, h6⟩
theorem down_id : ∀ t, chkN t = true → atN t = true → downN t false = t := by
  intro t
  induction t using Nd.ind with
  | h kind attr ints words lo hi op kids ih =>
    intro hch hat
    simp only [chkN, Bool.and_eq_true] at hch
    obtain ⟨hn, hc⟩ := hch
    unfold nodeB at hn
    by_cases o1 : op = 1
    · subst o1
      rw [if_pos rfl, Bool.and_eq_true] at hn
      obtain rfl := List.length_eq_zero_iff.1 (of_decide_eq_true hn.2)
      simp [downN, litT]
    · rw [if_neg o1] at hn
      by_cases o2 : op = 2
      · subst o2
        rw [if_pos rfl, Bool.and_eq_true] at hn
        obtain ⟨x, rfl⟩ := List.length_eq_one_iff.1 (of_decide_eq_true hn.2)
        obtain ⟨rfl, rfl, rfl, rfl, rfl, rfl⟩ := zero_parts hn.1
        obtain ⟨k2, a2, i2, w2, l2, h2, o2, ks2⟩ := x
        simp only [atN, if_true, headPred, opN] at hat
        have hat := of_decide_eq_true hat
        subst hat
        have hx := chkL_mem hc (x := .mk k2 a2 i2 w2 l2 h2 1 ks2) (by simp)
        simp only [chkN, Bool.and_eq_true] at hx
        have hx1 := hx.1
        unfold nodeB at hx1
        rw [if_pos rfl, Bool.and_eq_true] at hx1
        obtain rfl := List.length_eq_zero_iff.1 (of_decide_eq_true hx1.2)
        simp [downN, downH, litT, notT]
      · have ho : op = 3 ∨ op = 4 := by
          by_cases o3 : op = 3
          · exact Or.inl o3
          · by_cases o4 : op = 4
            · exact Or.inr o4
            · rw [if_neg o2, if_neg (by omega)] at hn; cases hn
        rw [if_neg o2, if_pos ho, Bool.and_eq_true] at hn
        obtain ⟨rfl, rfl, rfl, rfl, rfl, rfl⟩ := zero_parts hn.1
        rw [down_34 ho]
        have hA : ∀ x ∈ kids, atN x = true := atL_all (by rcases ho with rfl | rfl <;> simpa [atN] using hat)
        have hD : ∀ l : List Nd, (∀ x ∈ l, downN x false = x) → downL l false = l := by
          intro l
          induction l with
          | nil => intro _; rfl
          | cons a l ihl => intro h; simp only [downL]; rw [h a (by simp), ihl (fun x hx => h x (by simp [hx]))]
        rw [hD kids (fun x hx => ih x hx (chkL_mem hc hx) (hA x hx))]
        simp
theorem litN_cj (l : Lt) : cjN (litN l) = [[l]] ∧ atN (litN l) = true := by
  obtain ⟨k, a, i, w, lo, hi, neg⟩ := l
  cases neg
  · simp [litN, cjN, atN, atL]
  · simp [litN, notT, cjN, negLit, atN, headPred, opN]
theorem prod_lits : ∀ ls : List Lt, cjProd (ls.map litN) = [ls] := by
  intro ls
  induction ls with
  | nil => simp [cjProd]
  | cons l ls ih => simp only [List.map_cons, cjProd, ih, (litN_cj l).1]; simp [crossL]
theorem at_lits (ls : List Lt) : atL (ls.map litN) = true := atL_of (fun x hx => by obtain ⟨l, _, rfl⟩ := List.mem_map.1 hx; exact (litN_cj l).2)
theorem treeC_cj {ls : List Lt} (h : ls ≠ []) : cjN (treeC ls) = [ls] ∧ atN (treeC ls) = true := by
  unfold treeC
  match ls, h with
  | [l], _ => exact litN_cj l
  | l :: m :: r, _ =>
    rw [List.map_cons, List.map_cons, joinT_many 3 (by simp)]
    have h1 := prod_lits (l :: m :: r)
    have h2 := at_lits (l :: m :: r)
    simp only [List.map_cons] at h1 h2
    exact ⟨by simp only [cjN]; exact h1, by simp only [atN]; exact h2⟩
theorem chk_joinB {op : Int} (hop : op = 3 ∨ op = 4) {kids : List Nd} (h : 2 ≤ kids.length) : chkN (joinT op kids) = chkL kids := by
  rw [joinT_many op h]
  have hz : zeroB 0 ⟨#[]⟩ 0 0 0 0 = true := by decide +kernel
  rcases hop with rfl | rfl <;> simp [chkN, nodeB, hz, h]
theorem chk_zero : chkN zeroT = false := by decide +kernel
theorem treeC_ne {ls : List Lt} (h : chkN (treeC ls) = true) : ls ≠ [] := by
  rintro rfl
  have : chkN (treeC []) = false := chk_zero
  rw [this] at h
  cases h
theorem sum_trees : ∀ cs : List (List Lt), (∀ ls ∈ cs, ls ≠ []) → cjSum (cs.map treeC) = cs := by
  intro cs
  induction cs with
  | nil => intro _; simp [cjSum]
  | cons a cs ih => intro h; simp only [List.map_cons, cjSum, (treeC_cj (h a (by simp))).1, ih (fun x hx => h x (by simp [hx]))]; simp
/-- The tree of conjunctions in form: it is in form, pushed, and its conjunctions are these. -/
theorem treeT_back {cs : List (List Lt)} (ho : treeOk cs = true) (hn : cs ≠ []) : chkN (joinT 4 (cs.map treeC)) = true ∧ atN (joinT 4 (cs.map treeC)) = true ∧ cjN (joinT 4 (cs.map treeC)) = cs := by
  have hall : ∀ ls ∈ cs, chkN (treeC ls) = true := fun ls hl => by
    unfold treeOk at ho
    exact List.all_eq_true.1 ho ls hl
  have hne : ∀ ls ∈ cs, ls ≠ [] := fun ls hl => treeC_ne (hall ls hl)
  match cs, hn with
  | [a], _ =>
    have := treeC_cj (hne a (by simp))
    exact ⟨hall a (by simp), this.2, this.1⟩
  | a :: b :: r, _ =>
    have h1 := sum_trees (a :: b :: r) hne
    have h2 : chkL ((a :: b :: r).map treeC) = true := chkL_of (fun x hx => by obtain ⟨l, hl, rfl⟩ := List.mem_map.1 hx; exact hall l hl)
    have h3 : atL ((a :: b :: r).map treeC) = true := atL_of (fun x hx => by obtain ⟨l, hl, rfl⟩ := List.mem_map.1 hx; exact (treeC_cj (hne l hl)).2)
    refine ⟨by rw [chk_joinB (Or.inr rfl) (by simp)]; exact h2, ?_, ?_⟩
    · rw [joinT_many 4 (by simp)]; simp only [atN]; exact h3
    · rw [joinT_many 4 (by simp)]; simp only [cjN]; exact h1
theorem exp_back {cs : List (List Lt)} (ho : treeOk cs = true) (hn : cs ≠ []) : (cs.length ≤ 64 → expE (joinT 4 (cs.map treeC)) 64 = 0 ∧ expC (joinT 4 (cs.map treeC)) 64 = cs) ∧ (¬ cs.length ≤ 64 → expE (joinT 4 (cs.map treeC)) 64 = 13) ∧ ∀ ev, evalN ev (joinT 4 (cs.map treeC)) = anyC ev cs := by
  obtain ⟨h1, h2, h3⟩ := treeT_back ho hn
  obtain ⟨T, hT⟩ : ∃ T, joinT 4 (cs.map treeC) = T := ⟨_, rfl⟩
  rw [hT] at h1 h2 h3 ⊢
  have hd := down_id T h1 h2
  have hw := (wid_min (m := 64) (by omega) (by omega) T h1).1
  have hcj := (cj_all [] T h1 h2).1
  rw [h3] at hcj
  have hE : WidthE T 64 = 0 := by simp [WidthE, h1]
  have hA : WidthA T 64 = widN 64 T := by simp [WidthA, h1, hd]
  refine ⟨fun hl => ?_, fun hl => ?_, fun ev => ?_⟩
  · have e : expE T 64 = 0 := by unfold expE; rw [if_pos hE, if_neg (by rw [hA, hw]; omega)]
    exact ⟨e, by unfold expC; rw [if_pos e, hd, h3]⟩
  · unfold expE; rw [if_pos hE, if_pos (by rw [hA, hw]; omega)]
  · unfold evalN; rw [h1, Bool.true_and, ← (cj_all ev T h1 h2).2, h3]
end Go.Proofs.Ytcjkjhblmalbhaa
