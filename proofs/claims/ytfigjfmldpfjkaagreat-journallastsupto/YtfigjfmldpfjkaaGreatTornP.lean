/- Of a beginning of a head and records just the whole records are found: plain. -/
import Derived.Test.YtfigjfmldpfjkaaGreatEqC
namespace Go.Proofs.YtfigjfmldpfjkaaGreat

/-- Two records with which one row of bytes begins are one. -/
theorem one_uniq {l r r' : List UInt8} {c c' : Ch} (hc : MayB c) (hc' : MayB c') (h : l = oneB c ++ r) (h' : l = oneB c' ++ r') : c = c' := by
  have e := (decS_read hc h).symm.trans (decS_read hc' h')
  injection e with e
  injection e with e
theorem head_uniq {l r r' : List UInt8} {n n' : Nat} (h1 : 1 ≤ n) (h2 : n ≤ 1099511627777) (h1' : 1 ≤ n') (h2' : n' ≤ 1099511627777) (h : l = headB n ++ r) (h' : l = headB n' ++ r') : n = n' :=
  ((head_read h1 h2 h).2.1).symm.trans (head_read h1' h2' h').2.1
theorem dec_short {A : List UInt8} {c : Ch} {m : Nat} (hc : MayB c) (hm : m < (oneB c).length) : decS ((oneB c ++ A).take m) = none := by
  cases h : decS ((oneB c ++ A).take m) with
  | none => rfl
  | some x =>
    exfalso
    obtain ⟨c', n'⟩ := x
    obtain ⟨hm', hl, hn⟩ := decS_back h
    have hlen := decS_len h
    have hA : oneB c ++ A = oneB c' ++ (((oneB c ++ A).take m).drop n' ++ (oneB c ++ A).drop m) := by
      rw [← List.append_assoc, ← hl, List.take_append_drop]
    have := one_uniq hc hm' rfl hA
    subst this
    rw [List.length_take] at hlen
    omega
theorem head_short {A : List UInt8} {n m : Nat} (h1 : 1 ≤ n) (h2 : n ≤ 1099511627777) (hm : m < (headB n).length) : headOk ((headB n ++ A).take m) = false := by
  cases h : headOk ((headB n ++ A).take m) with
  | false => rfl
  | true =>
    exfalso
    obtain ⟨n', _, h1', h2', _, hl⟩ := head_back h
    have hA : headB n ++ A = headB n' ++ (((headB n ++ A).take m).drop (headB n').length ++ (headB n ++ A).drop m) := by
      rw [← List.append_assoc, ← hl, List.take_append_drop]
    have := head_uniq h1 h2 h1' h2' rfl hA
    subst this
    have hll := congrArg List.length hl
    rw [List.length_append, List.length_take] at hll
    omega
/-- How many records are whole within so many bytes. -/
def fit : List Ch → Nat → Nat
  | [], _ => 0
  | c :: cs, m => if (oneB c).length ≤ m then fit cs (m - (oneB c).length) + 1 else 0
theorem fit_pos {c : Ch} {cs : List Ch} {m : Nat} (h : (oneB c).length ≤ m) : fit (c :: cs) m = fit cs (m - (oneB c).length) + 1 := by rw [fit, if_pos h]
theorem fit_neg {c : Ch} {cs : List Ch} {m : Nat} (h : ¬ (oneB c).length ≤ m) : fit (c :: cs) m = 0 := by rw [fit, if_neg h]
theorem fit_le : ∀ (cs : List Ch) (m : Nat), fit cs m ≤ cs.length := by
  intro cs
  induction cs with
  | nil => intro m; simp [fit]
  | cons c cs ih => intro m; unfold fit; split
                    · have := ih (m - (oneB c).length); simp; omega
                    · simp
theorem fit_eq : ∀ (cs : List Ch) (m i : Nat), i ≤ cs.length → (encs (cs.take i)).length ≤ m → (i = cs.length ∨ m < (encs (cs.take (i + 1))).length) → fit cs m = i := by
  intro cs
  induction cs with
  | nil => intro m i hi _ _; simp at hi; simp [fit, hi]
  | cons c cs ih =>
    intro m i hi h1 h2
    cases i with
    | zero =>
      unfold fit
      rw [if_neg]
      rcases h2 with h | h
      · simp at h
      · simp [encs] at h; omega
    | succ i =>
      simp only [List.take_succ_cons, encs_cons, List.length_append] at h1 h2
      have h3 : i = cs.length ∨ m - (oneB c).length < (encs (cs.take (i + 1))).length := by
        rcases h2 with h | h
        · left; simpa using h
        · right; omega
      rw [fit_pos (by omega), ih (m - (oneB c).length) i (by simpa using hi) (by omega) h3]
theorem scan_take : ∀ (cs : List Ch) (m f : Nat), (∀ c ∈ cs, MayB c) → m ≤ (encs cs).length → m < f → scanL f ((encs cs).take m) = (cs.take (fit cs m), (encs (cs.take (fit cs m))).length) := by
  intro cs
  induction cs with
  | nil => intro m f _ hm hf; simp [encs] at hm; subst hm
           simp [encs, fit]; exact scanL_none decS_nil
  | cons c cs ih =>
    intro m f hc hm hf
    have hcm := hc c (by simp)
    rw [encs_cons] at hm ⊢
    by_cases h1 : (oneB c).length ≤ m
    · have e : (oneB c ++ encs cs).take m = oneB c ++ (encs cs).take (m - (oneB c).length) := by
        rw [List.take_append, List.take_of_length_le h1]
      rw [e]
      obtain ⟨f', rfl⟩ : ∃ f', f = f' + 1 := ⟨f - 1, by omega⟩
      have hd := decS_read hcm (l := oneB c ++ (encs cs).take (m - (oneB c).length)) rfl
      have hpos := (decS_len hd).1
      rw [scanL_some hd, drop_pre rfl, ih (m - (oneB c).length) f' (fun x hx => hc x (List.mem_cons_of_mem _ hx)) (by simp at hm; omega) (by omega)]
      rw [fit_pos h1]
      simp [encs_cons]
    · rw [scanL_none (dec_short hcm (by omega))]
      rw [fit_neg h1]
      simp [encs]
end Go.Proofs.YtfigjfmldpfjkaaGreat
