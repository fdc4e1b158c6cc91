/- Merging two rising lists of keys, each once: the plain part. -/
import Derived.Test.YtmgdhdekhaohhaaGreatDoorPlain
namespace Go.Proofs.YtmgdhdekhaohhaaGreatDoor

/-- What is merged so far: rising, of what was taken, and nothing that is left is ahead of it. -/
def Mrg (a b : List Ky) (i j : Nat) (out : List Ky) : Prop := Str out ∧ (∀ x, x ∈ out ↔ x ∈ a.take i ∨ x ∈ b.take j) ∧ ∀ x ∈ out, ∀ y, y ∈ a.drop i ∨ y ∈ b.drop j → ¬ ltK y x
theorem Mrg.start (a b : List Ky) : Mrg a b 0 0 [] := ⟨Str.nil, fun x => by simp, fun x hx => by simp at hx⟩
theorem Mrg.swap {a b : List Ky} {i j : Nat} {out : List Ky} (h : Mrg a b i j out) : Mrg b a j i out := ⟨h.1, fun x => (h.2.1 x).trans Or.comm, fun x hx y hy => h.2.2 x hx y hy.symm⟩
theorem str_step {out : List Ky} {x : Ky} (h : Str out) (hx : ∀ z ∈ out, ¬ ltK x z) : Str (stepC out x) :=
  str_foldC (l := [x]) h (List.pairwise_singleton _ _) fun z hz y hy => by
    obtain rfl : y = x := by simpa using hy
    exact hx z hz
theorem Mrg.left {a b : List Ky} {i j : Nat} {out : List Ky} (h : Mrg a b i j out) (ha : Str a) {x : Ky} (hx : a[i]? = some x) (hb : ∀ y ∈ b.drop j, ¬ ltK y x) : Mrg a b (i + 1) j (stepC out x) := by
  obtain ⟨h1, h2, h3⟩ := h
  have hl : i < a.length := (List.getElem?_eq_some_iff.1 hx).1
  have hd : a.drop i = x :: a.drop (i + 1) := by
    rw [List.drop_eq_getElem_cons hl]
    congr 1
    exact (List.getElem?_eq_some_iff.1 hx).2
  have ht : a.take (i + 1) = a.take i ++ [x] := by
    rw [List.take_add_one, hx]; rfl
  have hr : ∀ y ∈ a.drop (i + 1), ltK x y := by
    have := ha.sub (List.drop_sublist i a)
    rw [hd] at this
    exact (List.pairwise_cons.1 this).1
  refine ⟨str_step h1 fun z hz => h3 z hz x (Or.inl (by rw [hd]; exact List.mem_cons_self)), fun z => ?_, fun z hz y hy => ?_⟩
  · rw [mem_step, h2, ht, List.mem_append, List.mem_singleton]
    constructor
    · rintro ((h | h) | h) <;> simp [h]
    · rintro ((h | h) | h) <;> simp [h]
  · rcases mem_step.1 hz with hz | rfl
    · rcases hy with hy | hy
      · exact h3 z hz y (Or.inl (by rw [hd]; exact List.mem_cons_of_mem _ hy))
      · exact h3 z hz y (Or.inr hy)
    · rcases hy with hy | hy
      · exact lt_asymm (hr y hy)
      · exact hb y hy
theorem Mrg.right {a b : List Ky} {i j : Nat} {out : List Ky} (h : Mrg a b i j out) (hb : Str b) {x : Ky} (hx : b[j]? = some x) (ha : ∀ y ∈ a.drop i, ¬ ltK y x) : Mrg a b i (j + 1) (stepC out x) := (h.swap.left hb hx ha).swap
theorem not_lt_drop {b : List Ky} (hb : Str b) {j : Nat} {y x : Ky} (hy : b[j]? = some y) (h : ¬ ltK y x) : ∀ z ∈ b.drop j, ¬ ltK z x := by
  intro z hz
  have hl : j < b.length := (List.getElem?_eq_some_iff.1 hy).1
  have hd : b.drop j = y :: b.drop (j + 1) := by
    rw [List.drop_eq_getElem_cons hl]
    congr 1
    exact (List.getElem?_eq_some_iff.1 hy).2
  have := hb.sub (List.drop_sublist j b)
  rw [hd] at this hz
  rcases List.mem_cons.1 hz with rfl | hz
  · exact h
  · exact fun hzx => h (lt_trans ((List.pairwise_cons.1 this).1 z hz) hzx)
theorem Mrg.leftC {a b : List Ky} {i j : Nat} {out : List Ky} (h : Mrg a b i j out) (ha : Str a) (hb : Str b) {x y : Ky} (hx : a[i]? = some x) (hy : b[j]? = some y) (hc : cmpK x y ≤ 0) : Mrg a b (i + 1) j (stepC out x) :=
  h.left ha hx (not_lt_drop hb hy (by unfold ltK; rw [isCmp_key.neg x y]; omega))
theorem Mrg.leftE {a b : List Ky} {i j : Nat} {out : List Ky} (h : Mrg a b i j out) (ha : Str a) {x : Ky} (hx : a[i]? = some x) (hj : b.length ≤ j) : Mrg a b (i + 1) j (stepC out x) :=
  h.left ha hx (by rw [List.drop_eq_nil_of_le hj]; simp)
theorem Mrg.rightC {a b : List Ky} {i j : Nat} {out : List Ky} (h : Mrg a b i j out) (ha : Str a) (hb : Str b) {x y : Ky} (hx : a[i]? = some x) (hy : b[j]? = some y) (hc : ¬ cmpK x y ≤ 0) : Mrg a b i (j + 1) (stepC out y) :=
  h.right hb hy (not_lt_drop ha hx (by unfold ltK; omega))
theorem Mrg.rightE {a b : List Ky} {i j : Nat} {out : List Ky} (h : Mrg a b i j out) (hb : Str b) {y : Ky} (hy : b[j]? = some y) (hi : a.length ≤ i) : Mrg a b i (j + 1) (stepC out y) :=
  h.right hb hy (by rw [List.drop_eq_nil_of_le hi]; simp)
theorem Mrg.done {l m out : List Ky} {i j : Nat} (h : Mrg (ris l) (ris m) i j out) (hi : (ris l).length ≤ i) (hj : (ris m).length ≤ j) : out = ris (l ++ m) := by
  refine (ris_of h.1 fun x => ?_).symm
  rw [h.2.1, List.take_of_length_le hi, List.take_of_length_le hj, mem_ris, mem_ris, List.mem_append]
theorem step_len (out : List Ky) (x : Ky) : (stepC out x).length ≤ out.length + 1 := by
  unfold stepC; split <;> simp
theorem Mrg.len {a b : List Ky} {i j : Nat} {out : List Ky} (h : Mrg a b i j out) : out.length ≤ i + j := by
  have h1 : out = ris (a.take i ++ b.take j) := (ris_of h.1 fun x => by rw [h.2.1, List.mem_append]).symm
  rw [h1]
  refine Nat.le_trans (ris_len _) ?_
  rw [List.length_append, List.length_take, List.length_take]
  omega
theorem step_same {out : List Ky} {x : Ky} (h : out.getLast? = some x) : stepC out x = out := by unfold stepC; rw [if_pos h]
theorem step_new {out : List Ky} {x : Ky} (h : ¬ out.getLast? = some x) : stepC out x = out ++ [x] := by unfold stepC; rw [if_neg h]

/-- What two rising lists share, by going through both. -/
def Shr (x y : List Ky) (i j : Nat) (out : List Ky) : Prop := out = (x.take i).filter (fun z => decide (z ∈ y)) ∧ ∀ z ∈ y.take j, ∀ u ∈ x.drop i, ltK z u
theorem Shr.start (x y : List Ky) : Shr x y 0 0 [] := ⟨by simp, fun z hz => by simp at hz⟩
def Ahd (y : List Ky) (v : Ky) (j : Nat) : Prop := ∀ z ∈ y.take j, ltK z v
theorem drop_at' {l : List Ky} {i : Nat} {x : Ky} (hx : l[i]? = some x) : l.drop i = x :: l.drop (i + 1) := by
  have hl : i < l.length := (List.getElem?_eq_some_iff.1 hx).1
  rw [List.drop_eq_getElem_cons hl]
  congr 1
  exact (List.getElem?_eq_some_iff.1 hx).2
theorem take_at' {l : List Ky} {i : Nat} {x : Ky} (hx : l[i]? = some x) : l.take (i + 1) = l.take i ++ [x] := by
  rw [List.take_add_one, hx]; rfl
theorem Shr.ahd {x y : List Ky} {i j : Nat} {out : List Ky} {v : Ky} (h : Shr x y i j out) (hv : x[i]? = some v) : Ahd y v j := fun z hz => h.2 z hz v (by rw [drop_at' hv]; exact List.mem_cons_self)
theorem Ahd.step {y : List Ky} {v u : Ky} {j : Nat} (h : Ahd y v j) (hu : y[j]? = some u) (hc : cmpK u v < 0) : Ahd y v (j + 1) := by
  intro z hz
  rw [take_at' hu] at hz
  rcases List.mem_append.1 hz with hz | hz
  · exact h z hz
  · obtain rfl : z = u := by simpa using hz
    exact hc
theorem Ahd.mem {y : List Ky} {v : Ky} {j : Nat} (hy : Str y) (h : Ahd y v j) (he : ∀ u, y[j]? = some u → ¬ cmpK u v < 0) : v ∈ y ↔ y[j]? = some v := by
  constructor
  · intro hm
    rw [← List.take_append_drop j y] at hm
    rcases List.mem_append.1 hm with hm | hm
    · exact absurd (h v hm) (lt_irrefl v)
    · cases hu : y[j]? with
      | none =>
        rw [List.getElem?_eq_none_iff] at hu
        rw [List.drop_eq_nil_of_le hu] at hm
        simp at hm
      | some u =>
        have hd := drop_at' hu
        have hs := hy.sub (List.drop_sublist j y)
        rw [hd] at hs hm
        rcases List.mem_cons.1 hm with rfl | hm
        · rfl
        · exact absurd ((List.pairwise_cons.1 hs).1 v hm) (he u hu)
  · exact fun hm => List.mem_of_getElem? hm
theorem Shr.next {x y : List Ky} {i j j' : Nat} {out : List Ky} {v : Ky} (h : Shr x y i j out) (hx : Str x) (hv : x[i]? = some v) (ha : Ahd y v j') : Shr x y (i + 1) j' (if v ∈ y then out ++ [v] else out) := by
  refine ⟨?_, fun z hz u hu => ?_⟩
  · rw [take_at' hv, List.filter_append, ← h.1]
    split
    · next hm => simp [hm]
    · next hm => simp [hm]
  · have hs := hx.sub (List.drop_sublist i x)
    rw [drop_at' hv] at hs
    exact lt_trans (ha z hz) ((List.pairwise_cons.1 hs).1 u hu)
theorem Shr.len {x y : List Ky} {i j : Nat} {out : List Ky} (h : Shr x y i j out) : out.length ≤ i := by
  rw [h.1]
  exact Nat.le_trans (List.length_filter_le _ _) (by rw [List.length_take]; omega)
theorem Shr.done {x y : List Ky} {i j : Nat} {out : List Ky} (h : Shr x y i j out) (hi : x.length ≤ i) : out = x.filter (fun z => decide (z ∈ y)) := by
  rw [h.1, List.take_of_length_le hi]
end Go.Proofs.YtmgdhdekhaohhaaGreatDoor
