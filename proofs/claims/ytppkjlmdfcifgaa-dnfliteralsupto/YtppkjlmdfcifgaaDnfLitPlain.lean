/- The literals of an expression's conjunctions are its predicates: the plain part. -/
import Derived.Test.YtppkjlmdfcifgaaDnfLv
import Derived.Test.YtppkjlmdfcifgaaDnfExpand
import Derived.Test.YtppkjlmdfcifgaaSamePred
namespace Go.Proofs.Ytppkjlmdfcifgaa
open Go.RowKit Go.Sort

def pdOf (l : Lt) : Pd := ⟨l.kind, l.attr, l.ints, l.words, l.lo, l.hi⟩
/-- Is the literal's predicate p? -/
def sP (l : Lt) (p : Pd) : Bool := sameQ l.kind l.attr l.ints l.words l.lo l.hi p.kind p.attr p.ints p.words p.lo p.hi
theorem sP_of {l : Lt} {p : Pd} (h : pdOf l = p) : sP l p = true := by
  subst h
  simp [sP, sameQ, pdOf]
theorem lits_in : ∀ t : Nd, chkN t = true → atN t = true → ∀ c ∈ cjN t, ∀ x ∈ c, pdOf x ∈ lvN t := by
  intro t
  induction t using Nd.ind with
  | h kind attr ints words lo hi op kids ih =>
    intro hch hat c hc x hx
    rcases chk_parts hch with ⟨rfl, rfl, hp⟩ | ⟨rfl, ⟨y, rfl, hy⟩, _⟩ | ⟨ho, h2, hl, _⟩
    · simp [cjN] at hc
      subst hc
      simp at hx
      subst hx
      simp [lvN, pdOf]
    · obtain ⟨k2, a2, i2, w2, l2, h2, o2, ks2⟩ := y
      simp only [atN, if_true, headPred, opN] at hat
      have hat := of_decide_eq_true hat
      subst hat
      simp [cjN, negLit] at hc
      subst hc
      simp at hx
      subst hx
      simp [lvN, lvL, pdOf]
    · have hA : ∀ y ∈ kids, atN y = true := atL_all (by rcases ho with rfl | rfl <;> simpa [atN] using hat)
      have ih2 : ∀ y ∈ kids, ∀ c ∈ cjN y, ∀ x ∈ c, pdOf x ∈ lvN y := fun y hy => ih y hy (chkL_all hl y hy) (hA y hy)
      have hS : ∀ ks : List Nd, (∀ y ∈ ks, ∀ c ∈ cjN y, ∀ x ∈ c, pdOf x ∈ lvN y) → ∀ c ∈ cjSum ks, ∀ x ∈ c, pdOf x ∈ lvL ks := by
        intro ks
        induction ks with
        | nil => intro _ c hc; simp [cjSum] at hc
        | cons y ks ihk =>
          intro hy c hc x hx
          simp only [cjSum, List.mem_append] at hc
          simp only [lvL, List.mem_append]
          rcases hc with hc | hc
          · exact Or.inl (hy y (by simp) c hc x hx)
          · exact Or.inr (ihk (fun z hz => hy z (by simp [hz])) c hc x hx)
      have hP : ∀ ks : List Nd, (∀ y ∈ ks, ∀ c ∈ cjN y, ∀ x ∈ c, pdOf x ∈ lvN y) → ∀ c ∈ cjProd ks, ∀ x ∈ c, pdOf x ∈ lvL ks := by
        intro ks
        induction ks with
        | nil => intro _ c hc x hx; simp [cjProd] at hc; subst hc; simp at hx
        | cons y ks ihk =>
          intro hy c hc x hx
          simp only [cjProd, crossL, List.mem_flatMap, List.mem_map] at hc
          obtain ⟨c1, h1, c2, h2, rfl⟩ := hc
          simp only [lvL, List.mem_append]
          rcases List.mem_append.1 hx with hx | hx
          · exact Or.inl (hy y (by simp) c1 h1 x hx)
          · exact Or.inr (ihk (fun z hz => hy z (by simp [hz])) c2 h2 x hx)
      rcases ho with rfl | rfl
      · simp [cjN] at hc
        simp only [lvN]
        exact hP kids ih2 c hc x hx
      · simp [cjN] at hc
        simp only [lvN]
        exact hS kids ih2 c hc x hx
theorem cj_some {t : Nd} (hc : chkN t = true) (ha : atN t = true) : ∃ c, c ∈ cjN t := by
  have h1 := (cj_all [] t hc ha).1
  have h2 := (wid_min (m := 64) (by omega) (by omega) t hc).2
  cases h : cjN t with
  | nil => rw [h] at h1; simp at h1; omega
  | cons c l => exact ⟨c, by simp⟩
theorem lits_all : ∀ t : Nd, chkN t = true → atN t = true → ∀ p ∈ lvN t, ∃ c ∈ cjN t, ∃ x ∈ c, pdOf x = p := by
  intro t
  induction t using Nd.ind with
  | h kind attr ints words lo hi op kids ih =>
    intro hch hat p hp
    rcases chk_parts hch with ⟨rfl, rfl, _⟩ | ⟨rfl, ⟨y, rfl, hy⟩, _⟩ | ⟨ho, h2, hl, _⟩
    · simp [lvN] at hp
      subst hp
      exact ⟨[⟨kind, attr, ints, words, lo, hi, false⟩], by simp [cjN], ⟨kind, attr, ints, words, lo, hi, false⟩, by simp, rfl⟩
    · obtain ⟨k2, a2, i2, w2, l2, h2, o2, ks2⟩ := y
      simp only [atN, if_true, headPred, opN] at hat
      have hat := of_decide_eq_true hat
      subst hat
      simp [lvN, lvL] at hp
      subst hp
      exact ⟨[⟨k2, a2, i2, w2, l2, h2, true⟩], by simp [cjN, negLit], ⟨k2, a2, i2, w2, l2, h2, true⟩, by simp, rfl⟩
    · have hA : ∀ y ∈ kids, atN y = true := atL_all (by rcases ho with rfl | rfl <;> simpa [atN] using hat)
      have ih2 : ∀ y ∈ kids, ∀ p ∈ lvN y, ∃ c ∈ cjN y, ∃ x ∈ c, pdOf x = p := fun y hy => ih y hy (chkL_all hl y hy) (hA y hy)
      have hN : ∀ y ∈ kids, ∃ c, c ∈ cjN y := fun y hy => cj_some (chkL_all hl y hy) (hA y hy)
      have hS : ∀ ks : List Nd, (∀ y ∈ ks, ∀ p ∈ lvN y, ∃ c ∈ cjN y, ∃ x ∈ c, pdOf x = p) → ∀ p ∈ lvL ks, ∃ c ∈ cjSum ks, ∃ x ∈ c, pdOf x = p := by
        intro ks
        induction ks with
        | nil => intro _ p hp; simp [lvL] at hp
        | cons y ks ihk =>
          intro hy p hp
          simp only [lvL, List.mem_append] at hp
          simp only [cjSum, List.mem_append]
          rcases hp with hp | hp
          · obtain ⟨c, h1, h2⟩ := hy y (by simp) p hp
            exact ⟨c, Or.inl h1, h2⟩
          · obtain ⟨c, h1, h2⟩ := ihk (fun z hz => hy z (by simp [hz])) p hp
            exact ⟨c, Or.inr h1, h2⟩
      have hPn : ∀ ks : List Nd, (∀ y ∈ ks, ∃ c, c ∈ cjN y) → ∃ c, c ∈ cjProd ks := by
        intro ks
        induction ks with
        | nil => intro _; exact ⟨[], by simp [cjProd]⟩
        | cons y ks ihk =>
          intro hy
          obtain ⟨c1, h1⟩ := hy y (by simp)
          obtain ⟨c2, h2⟩ := ihk (fun z hz => hy z (by simp [hz]))
          exact ⟨c1 ++ c2, by simp only [cjProd, crossL, List.mem_flatMap, List.mem_map]; exact ⟨c1, h1, c2, h2, rfl⟩⟩
      have hP : ∀ ks : List Nd, (∀ y ∈ ks, ∃ c, c ∈ cjN y) → (∀ y ∈ ks, ∀ p ∈ lvN y, ∃ c ∈ cjN y, ∃ x ∈ c, pdOf x = p) → ∀ p ∈ lvL ks, ∃ c ∈ cjProd ks, ∃ x ∈ c, pdOf x = p := by
        intro ks
        induction ks with
        | nil => intro _ _ p hp; simp [lvL] at hp
        | cons y ks ihk =>
          intro hn hy p hp
          simp only [lvL, List.mem_append] at hp
          simp only [cjProd, crossL, List.mem_flatMap, List.mem_map]
          rcases hp with hp | hp
          · obtain ⟨c1, h1, x, hx, he⟩ := hy y (by simp) p hp
            obtain ⟨c2, h2⟩ := hPn ks (fun z hz => hn z (by simp [hz]))
            exact ⟨c1 ++ c2, ⟨c1, h1, c2, h2, rfl⟩, x, by simp [hx], he⟩
          · obtain ⟨c2, h2, x, hx, he⟩ := ihk (fun z hz => hn z (by simp [hz])) (fun z hz => hy z (by simp [hz])) p hp
            obtain ⟨c1, h1⟩ := hn y (by simp)
            exact ⟨c1 ++ c2, ⟨c1, h1, c2, h2, rfl⟩, x, by simp [hx], he⟩
      rcases ho with rfl | rfl
      · simp [lvN] at hp
        simp only [cjN]
        exact hP kids hN ih2 p hp
      · simp [lvN] at hp
        simp only [cjN]
        exact hS kids ih2 p hp
/-- Which predicates have been met. -/
def flags (ps : List Pd) (done : List Lt) : List Value := ps.map (fun p => Value.bool (done.any (fun x => sP x p)))
theorem flags_len (ps : List Pd) (done : List Lt) : (flags ps done).length = ps.length := by simp [flags]
theorem flags_nil (ps : List Pd) : flags ps [] = List.replicate ps.length (Value.bool false) := by
  unfold flags
  simp [List.map_const']
theorem flags_at {ps : List Pd} {done : List Lt} {k : Nat} {p : Pd} (h : ps[k]? = some p) : (flags ps done)[k]? = some (Value.bool (done.any (fun x => sP x p))) := by simp [flags, h]
theorem flags_hit {ps : List Pd} {done : List Lt} {k : Nat} {p : Pd} {x : Lt} (h : ps[k]? = some p) (hs : sP x p = true) : (flags ps (done ++ [x])).take (k + 1) = (flags ps (done ++ [x])).take k ++ [Value.bool true] := by
  rw [take_snoc_of (flags_at h)]
  simp [hs]
theorem flags_mis {ps : List Pd} {done : List Lt} {k : Nat} {p : Pd} {x : Lt} (h : ps[k]? = some p) (hs : sP x p = false) : (flags ps (done ++ [x])).take (k + 1) = (flags ps (done ++ [x])).take k ++ [Value.bool (done.any (fun x => sP x p))] := by
  rw [take_snoc_of (flags_at h)]
  simp [hs]
theorem flags_drop {ps : List Pd} {done : List Lt} {k : Nat} {p : Pd} (h : ps[k]? = some p) : (flags ps done).drop k = [Value.bool (done.any (fun x => sP x p))] ++ (flags ps done).drop (k + 1) := by
  have hk : k < (flags ps done).length := by rw [flags_len]; exact (List.getElem?_eq_some_iff.1 h).1
  rw [List.drop_eq_getElem_cons hk]
  have := flags_at (done := done) h
  rw [List.getElem?_eq_getElem hk] at this
  rw [Option.some.inj this]
  rfl
end Go.Proofs.Ytppkjlmdfcifgaa
