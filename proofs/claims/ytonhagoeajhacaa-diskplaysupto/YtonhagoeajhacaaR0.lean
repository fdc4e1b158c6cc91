/- The reference's disk, plain: its files by rising names, put, drop. -/
import Derived.Test.YtonhagoeajhacaaBase
namespace Go.Proofs.Ytonhagoeajhacaa
open Go.RowKit Go.Sort

structure Rf where
  nm : ByteArray
  p : Option Addr
  c : Nat
  bs : List UInt8
  la : Nat
instance : Inhabited Rf := ⟨⟨⟨#[]⟩, none, 0, [], 0⟩⟩
def encF (f : Rf) : List Value := [.string f.nm, .slice f.p f.bs.length f.c, .int .i64 (f.la : Int)]
structure Rk where
  fs : List Rf
  acts : Nat
  off : Bool
  named : Nat
  part : Int
def ltN (x y : ByteArray) : Prop := x.data.toList < y.data.toList
instance (x y : ByteArray) : Decidable (ltN x y) := inferInstanceAs (Decidable (x.data.toList < y.data.toList))
theorem ltN_irr (x : ByteArray) : ¬ ltN x x := List.lt_irrefl _
theorem ltN_trans {x y z : ByteArray} (h : ltN x y) (h2 : ltN y z) : ltN x z := List.lt_trans h h2
theorem ltN_tri {x y : ByteArray} (h : ¬ ltN x y) (hne : x ≠ y) : ltN y x := by
  unfold ltN at *
  rcases Std.lt_trichotomy x.data.toList y.data.toList with h1 | h1 | h1
  · exact absurd h1 h
  · exfalso; apply hne; cases x; cases y; simp only at h1; rw [Array.toList_inj.1 h1]
  · exact h1
def Srt (l : List Rf) : Prop := l.Pairwise fun x y => ltN x.nm y.nm
def stp (f : Rf) (o : List Rf × Bool) (x : Rf) : List Rf × Bool :=
  let o1 := if ltN x.nm f.nm then o else if o.2 then o else (o.1 ++ [f], true)
  if x.nm = f.nm then o1 else (o1.1 ++ [x], o1.2)
def fin (f : Rf) (o : List Rf × Bool) : List Rf := if o.2 then o.1 else o.1 ++ [f]
def putR (l : List Rf) (f : Rf) : List Rf := fin f (l.foldl (stp f) ([], false))
def dropR (l : List Rf) (nm : ByteArray) : List Rf := l.filter fun x => decide (x.nm ≠ nm)
theorem fold_snoc {l : List Rf} {k : Nat} {x f : Rf} (h : l[k]? = some x) : (l.take (k + 1)).foldl (stp f) ([], false) = stp f ((l.take k).foldl (stp f) ([], false)) x := by
  rw [List.take_add_one, h]; simp [List.foldl_append]
theorem drop_snoc {l : List Rf} {k : Nat} {x : Rf} {nm : ByteArray} (h : l[k]? = some x) : dropR (l.take (k + 1)) nm = if x.nm = nm then dropR (l.take k) nm else dropR (l.take k) nm ++ [x] := by
  rw [List.take_add_one, h]
  unfold dropR
  by_cases e : x.nm = nm <;> simp [e]
theorem drop_len (l : List Rf) (nm : ByteArray) : (dropR l nm).length ≤ l.length := List.length_filter_le _ _
theorem mem_drop {l : List Rf} {nm : ByteArray} {x : Rf} : x ∈ dropR l nm ↔ x ∈ l ∧ x.nm ≠ nm := by simp [dropR]
theorem srt_drop {l : List Rf} (h : Srt l) (nm : ByteArray) : Srt (dropR l nm) := List.Pairwise.filter _ h
theorem stp_lt {f x : Rf} (o : List Rf × Bool) (h : ltN x.nm f.nm) : stp f o x = (o.1 ++ [x], o.2) := by
  have hne : x.nm ≠ f.nm := fun e => ltN_irr _ (e ▸ h)
  unfold stp; simp only [if_pos h, if_neg hne]
theorem stp_gt1 {f x : Rf} {o : List Rf × Bool} (h : ¬ ltN x.nm f.nm) (hne : x.nm ≠ f.nm) (h2 : o.2 = true) : stp f o x = (o.1 ++ [x], true) := by
  unfold stp; simp only [if_neg h, if_neg hne, h2, if_true]
theorem stp_eq1 {f x : Rf} {o : List Rf × Bool} (hne : x.nm = f.nm) (h2 : o.2 = true) : stp f o x = (o.1, true) := by
  have h : ¬ ltN x.nm f.nm := by rw [hne]; exact ltN_irr _
  unfold stp; simp only [if_neg h, if_pos hne, h2, if_true]; rw [← h2]
theorem stp_eq0 {f x : Rf} {o : List Rf × Bool} (hne : x.nm = f.nm) (h2 : o.2 = false) : stp f o x = (o.1 ++ [f], true) := by
  have h : ¬ ltN x.nm f.nm := by rw [hne]; exact ltN_irr _
  unfold stp; simp only [if_neg h, if_pos hne, h2]; simp
theorem stp_gt0 {f x : Rf} {o : List Rf × Bool} (h : ¬ ltN x.nm f.nm) (hne : x.nm ≠ f.nm) (h2 : o.2 = false) : stp f o x = (o.1 ++ [f] ++ [x], true) := by
  unfold stp; simp only [if_neg h, if_neg hne, h2]; simp
theorem mem_fold (f : Rf) (l : List Rf) : ∀ (o : List Rf × Bool) (s : List Rf), (∀ x, x ∈ o.1 ↔ (o.2 = true ∧ x = f) ∨ (x ∈ s ∧ x.nm ≠ f.nm)) → ∀ x, x ∈ (l.foldl (stp f) o).1 ↔ ((l.foldl (stp f) o).2 = true ∧ x = f) ∨ (x ∈ s ++ l ∧ x.nm ≠ f.nm) := by
  induction l with
  | nil => intro o s h x; simpa using h x
  | cons y l ih =>
    intro o s h x
    rw [List.foldl_cons, show s ++ y :: l = (s ++ [y]) ++ l by simp]
    refine ih (stp f o y) (s ++ [y]) (fun z => ?_) x
    have hz := h z
    have hap : z ∈ s ++ [y] ∧ z.nm ≠ f.nm ↔ (z ∈ s ∧ z.nm ≠ f.nm) ∨ (z = y ∧ y.nm ≠ f.nm) := by
      rw [List.mem_append, List.mem_singleton]
      constructor
      · rintro ⟨h1 | rfl, h2⟩
        · exact Or.inl ⟨h1, h2⟩
        · exact Or.inr ⟨rfl, h2⟩
      · rintro (⟨h1, h2⟩ | ⟨rfl, h2⟩)
        · exact ⟨Or.inl h1, h2⟩
        · exact ⟨Or.inr rfl, h2⟩
    rw [hap]
    clear hap ih h
    by_cases h1 : ltN y.nm f.nm
    · have hne : y.nm ≠ f.nm := fun e => ltN_irr _ (e ▸ h1)
      rw [stp_lt o h1]
      simp only [List.mem_append, List.mem_singleton, hz]
      by_cases a : z = y <;> by_cases b : z ∈ s <;> by_cases c : z = f <;> by_cases d : z.nm = f.nm <;> by_cases e : o.2 = true <;> simp_all
    · by_cases h3 : y.nm = f.nm
      · by_cases h2 : o.2 = true
        · rw [stp_eq1 h3 h2]
          simp only [hz]
          by_cases a : z = y <;> by_cases b : z ∈ s <;> by_cases c : z = f <;> by_cases d : z.nm = f.nm <;> simp_all
        · have h2' : o.2 = false := by simpa using h2
          rw [stp_eq0 h3 h2']
          simp only [List.mem_append, List.mem_singleton, hz]
          by_cases a : z = y <;> by_cases b : z ∈ s <;> by_cases c : z = f <;> by_cases d : z.nm = f.nm <;> simp_all
      · by_cases h2 : o.2 = true
        · rw [stp_gt1 h1 h3 h2]
          simp only [List.mem_append, List.mem_singleton, hz]
          by_cases a : z = y <;> by_cases b : z ∈ s <;> by_cases c : z = f <;> by_cases d : z.nm = f.nm <;> simp_all
        · have h2' : o.2 = false := by simpa using h2
          rw [stp_gt0 h1 h3 h2']
          simp only [List.mem_append, List.mem_singleton, hz]
          by_cases a : z = y <;> by_cases b : z ∈ s <;> by_cases c : z = f <;> by_cases d : z.nm = f.nm <;> simp_all
theorem mem_put {l : List Rf} {f x : Rf} : x ∈ putR l f ↔ x = f ∨ (x ∈ l ∧ x.nm ≠ f.nm) := by
  have h := mem_fold f l ([], false) [] (fun x => by simp) x
  simp only [List.nil_append] at h
  unfold putR fin
  by_cases h2 : (l.foldl (stp f) ([], false)).2 = true
  · rw [if_pos h2, h]; simp [h2]
  · rw [if_neg h2, List.mem_append, h]
    simp only [List.mem_singleton]
    constructor
    · rintro ((h | h) | h)
      · exact absurd h.1 h2
      · exact Or.inr h
      · exact Or.inl h
    · rintro (h | h)
      · exact Or.inr h
      · exact Or.inl (Or.inr h)
theorem stp_len (f : Rf) (o : List Rf × Bool) (y : Rf) : (stp f o y).1.length + (if (stp f o y).2 = true then 0 else 1) ≤ o.1.length + 1 + (if o.2 = true then 0 else 1) := by
  by_cases h1 : ltN y.nm f.nm
  · rw [stp_lt o h1]; simp only [List.length_append, List.length_singleton]; omega
  · by_cases h3 : y.nm = f.nm
    · by_cases h2 : o.2 = true
      · rw [stp_eq1 h3 h2, h2]; simp
      · have h2' : o.2 = false := by simpa using h2
        rw [stp_eq0 h3 h2', h2']; simp
    · by_cases h2 : o.2 = true
      · rw [stp_gt1 h1 h3 h2, h2]; simp
      · have h2' : o.2 = false := by simpa using h2
        rw [stp_gt0 h1 h3 h2', h2']; simp
theorem len_fold (f : Rf) (l : List Rf) : ∀ o : List Rf × Bool, (l.foldl (stp f) o).1.length + (if (l.foldl (stp f) o).2 = true then 0 else 1) ≤ o.1.length + l.length + (if o.2 = true then 0 else 1) := by
  induction l with
  | nil => intro o; exact Nat.le_refl _
  | cons y l ih =>
    intro o
    rw [List.foldl_cons]
    have h := ih (stp f o y)
    have h1 := stp_len f o y
    simp only [List.length_cons]
    omega
theorem len_put (l : List Rf) (f : Rf) : (putR l f).length ≤ l.length + 1 := by
  have h := len_fold f l ([], false)
  simp only [List.length_nil, Bool.false_eq_true, if_false] at h
  unfold putR fin
  by_cases h2 : (l.foldl (stp f) ([], false)).2 = true
  · rw [if_pos h2] at h ⊢; omega
  · rw [if_neg h2] at h ⊢; simp only [List.length_append, List.length_singleton]; omega
theorem len_take_fold (l : List Rf) (f : Rf) (k : Nat) : ((l.take k).foldl (stp f) ([], false)).1.length ≤ l.length + 1 := by
  have h := len_fold f (l.take k) ([], false)
  simp only [List.length_nil, Bool.false_eq_true, if_false, List.length_take] at h
  omega
def FI (f : Rf) (s : List Rf) (o : List Rf × Bool) : Prop := (o.2 = false ∧ o.1 = s ∧ ∀ z ∈ s, ltN z.nm f.nm) ∨ (o.2 = true ∧ Srt o.1 ∧ (∀ y ∈ o.1, y = f ∨ y ∈ s) ∧ ∃ z ∈ s, ¬ ltN z.nm f.nm)
theorem srt_snoc {l : List Rf} {x : Rf} (h : Srt l) (hx : ∀ y ∈ l, ltN y.nm x.nm) : Srt (l ++ [x]) := by
  unfold Srt at *
  rw [List.pairwise_append]
  exact ⟨h, by simp, fun a ha b hb => by rw [List.mem_singleton] at hb; rw [hb]; exact hx a ha⟩
theorem FI.step {f : Rf} {s : List Rf} {o : List Rf × Bool} {x : Rf} (h : FI f s o) (hs : Srt s) (hx : ∀ z ∈ s, ltN z.nm x.nm) : FI f (s ++ [x]) (stp f o x) := by
  rcases h with ⟨h1, h2, h3⟩ | ⟨h1, h2, h3, z, hz, h4⟩
  · by_cases hl : ltN x.nm f.nm
    · rw [stp_lt o hl]
      refine Or.inl ⟨h1, by rw [h2], fun z hz => ?_⟩
      rw [List.mem_append, List.mem_singleton] at hz
      rcases hz with hz | rfl
      · exact h3 z hz
      · exact hl
    · have hw : ∃ z ∈ s ++ [x], ¬ ltN z.nm f.nm := ⟨x, by simp, hl⟩
      have hsf : Srt (o.1 ++ [f]) := srt_snoc (h2 ▸ hs) (fun y hy => h3 y (h2 ▸ hy))
      by_cases hne : x.nm = f.nm
      · rw [stp_eq0 hne h1]
        refine Or.inr ⟨rfl, hsf, fun y hy => ?_, hw⟩
        rw [List.mem_append, List.mem_singleton] at hy
        rcases hy with hy | rfl
        · exact Or.inr (List.mem_append_left _ (h2 ▸ hy))
        · exact Or.inl rfl
      · rw [stp_gt0 hl hne h1]
        refine Or.inr ⟨rfl, srt_snoc hsf fun y hy => ?_, fun y hy => ?_, hw⟩
        · rw [List.mem_append, List.mem_singleton] at hy
          rcases hy with hy | rfl
          · exact hx y (h2 ▸ hy)
          · exact ltN_tri hl hne
        · simp only [List.mem_append, List.mem_singleton] at hy
          rcases hy with (hy | rfl) | rfl
          · exact Or.inr (List.mem_append_left _ (h2 ▸ hy))
          · exact Or.inl rfl
          · exact Or.inr (by simp)
  · have hzx := hx z hz
    have hfx : ltN f.nm x.nm := by
      by_cases e : z.nm = f.nm
      · rw [← e]; exact hzx
      · exact ltN_trans (ltN_tri h4 e) hzx
    have hl : ¬ ltN x.nm f.nm := fun e => ltN_irr _ (ltN_trans e hfx)
    have hne : x.nm ≠ f.nm := fun e => hl (by rw [e] at hfx; exact absurd hfx (ltN_irr _))
    rw [stp_gt1 hl hne h1]
    refine Or.inr ⟨rfl, srt_snoc h2 fun y hy => ?_, fun y hy => ?_, z, List.mem_append_left _ hz, h4⟩
    · rcases h3 y hy with rfl | hy
      · exact hfx
      · exact hx y hy
    · rw [List.mem_append, List.mem_singleton] at hy
      rcases hy with hy | rfl
      · rcases h3 y hy with h | h
        · exact Or.inl h
        · exact Or.inr (List.mem_append_left _ h)
      · exact Or.inr (by simp)
theorem FI.all (f : Rf) (l : List Rf) : ∀ (o : List Rf × Bool) (s : List Rf), FI f s o → Srt (s ++ l) → FI f (s ++ l) (l.foldl (stp f) o) := by
  induction l with
  | nil => intro o s h _; simpa using h
  | cons y l ih =>
    intro o s h hs
    rw [List.foldl_cons, show s ++ y :: l = (s ++ [y]) ++ l by simp]
    have hs' := hs
    unfold Srt at hs'
    rw [List.pairwise_append] at hs'
    exact ih _ _ (h.step hs'.1 fun z hz => hs'.2.2 z hz y (by simp)) (by simpa using hs)
theorem srt_put {l : List Rf} (h : Srt l) (f : Rf) : Srt (putR l f) := by
  have h2 := FI.all f l ([], false) [] (Or.inl ⟨rfl, rfl, by simp⟩) (by simpa using h)
  simp only [List.nil_append] at h2
  unfold putR fin
  rcases h2 with ⟨h1, h2, h3⟩ | ⟨h1, h2, _⟩
  · rw [h1, if_neg (by simp), h2]; exact srt_snoc h h3
  · rw [h1, if_pos rfl]; exact h2
end Go.Proofs.Ytonhagoeajhacaa
