/- What conj.Make makes of literals, as plain data. -/
import Derived.Test.YtimklglliffpcaaGreatQCjCompact
namespace Go.Proofs.YtimklglliffpcaaGreat

def ltPd (l : Lt) : Pd := ⟨l.kind, l.attr, l.ints, l.words, l.lo, l.hi⟩
/-- The normal ones of the negated. -/
def negL (ls : List Lt) : List Pd := ls.filterMap fun l => if l.neg then normD (ltPd l) else none
def leD (a b : Pd) : Bool := decide (cmpD a b ≤ 0)
def srtD (l : List Pd) : List Pd := l.mergeSort leD
theorem le_trans_D {a b c : Pd} (h1 : cmpD a b ≤ 0) (h2 : cmpD b c ≤ 0) : cmpD a c ≤ 0 := (isCmp_D.trans _ _ _ h1 h2)
theorem le_total_D (a b : Pd) : cmpD a b ≤ 0 ∨ cmpD b a ≤ 0 := by have := isCmp_D.neg a b; omega
theorem le_anti_D {a b : Pd} (h1 : cmpD a b ≤ 0) (h2 : cmpD b a ≤ 0) : a = b := by
  have := isCmp_D.neg a b
  exact (isCmp_D.eq a b).1 (by omega)
theorem srtD_sorted (l : List Pd) : (srtD l).Pairwise (fun a b => cmpD a b ≤ 0) := by
  have h := List.pairwise_mergeSort (le := leD) (fun a b c h1 h2 => by simp only [leD, decide_eq_true_eq] at *; exact le_trans_D h1 h2) (fun a b => by simp only [leD, Bool.or_eq_true, decide_eq_true_eq]; exact le_total_D a b) l
  exact h.imp fun {a b} hab => by simpa [leD] using hab
theorem srtD_perm (l : List Pd) : (srtD l).Perm l := List.mergeSort_perm _ _
/-- A sorted list of the same is this one. -/
theorem srtD_of {l l' : List Pd} (hp : l'.Perm l) (hs : l'.Pairwise (fun a b => cmpD a b ≤ 0)) : l' = srtD l :=
  List.Perm.eq_of_pairwise (fun _ _ _ _ h1 h2 => le_anti_D h1 h2) hs (srtD_sorted l) (hp.trans (srtD_perm l).symm)
def negD (ls : List Lt) : List Pd := cptD (srtD (negL ls))
/-- The predicates that must hold. -/
def posL (ls : List Lt) : List Pd := ls.filterMap fun l => if l.neg then none else some (ltPd l)
def namesD (ls : List Lt) : List ByteArray := onceS ((posL ls).map Pd.attr)
def grpD (ls : List Lt) (a : ByteArray) : List Pd := (posL ls).filter fun p => decide (p.attr = a)
def posGo (ls : List Lt) : List ByteArray → Option (List Pd)
  | [] => some []
  | a :: r => match meetD (grpD ls a) with
    | none => none
    | some m => (posGo ls r).map (m :: ·)
def posD (ls : List Lt) : Option (List Pd) := posGo ls (namesD ls)
theorem posGo_snoc (ls : List Lt) (l : List ByteArray) (a : ByteArray) {d : List Pd} (h : posGo ls l = some d) : posGo ls (l ++ [a]) = (meetD (grpD ls a)).map (fun m => d ++ [m]) := by
  induction l generalizing d with
  | nil =>
    cases h
    simp only [List.nil_append, posGo]
    cases meetD (grpD ls a) <;> rfl
  | cons x r ih =>
    simp only [posGo, List.cons_append] at h ⊢
    cases hm : meetD (grpD ls x) with
    | none => rw [hm] at h; cases h
    | some m =>
      rw [hm] at h
      simp only at h ⊢
      obtain ⟨d', hd, rfl⟩ := Option.map_eq_some_iff.1 h
      rw [ih hd]
      cases meetD (grpD ls a) <;> rfl
theorem posGo_none (ls : List Lt) (l : List ByteArray) (a : ByteArray) (r : List ByteArray) (h : meetD (grpD ls a) = none) : posGo ls (l ++ a :: r) = none := by
  induction l with
  | nil => simp only [List.nil_append, posGo, h]
  | cons x l ih =>
    simp only [posGo, List.cons_append]
    cases meetD (grpD ls x) with
    | none => rfl
    | some m => simp only [ih, Option.map_none]
/-- A conjunction. -/
structure Cd where
  never : Bool
  pos : List Pd
  neg : List Pd
deriving DecidableEq
instance : Inhabited Cd := ⟨⟨false, [], []⟩⟩
def okL (ls : List Lt) : Bool := ls.all fun l => (ltPd l).ok
def makeC (ls : List Lt) : Cd := match posD ls with
  | none => ⟨true, [], []⟩
  | some p => ⟨false, p, negD ls⟩
def makeD (ls : List Lt) : Cd := if okL ls then makeC ls else ⟨false, [], []⟩
def makeE (ls : List Lt) : Int := if okL ls then 0 else 1
theorem posL_take {ls : List Lt} {k : Nat} {l : Lt} (h : ls[k]? = some l) : posL (ls.take (k + 1)) = posL (ls.take k) ++ (if l.neg then [] else [ltPd l]) := by
  unfold posL
  rw [take_snoc_of h, List.filterMap_append]
  congr 1
  cases hn : l.neg <;> simp [hn]
theorem negL_take {ls : List Lt} {k : Nat} {l : Lt} (h : ls[k]? = some l) : negL (ls.take (k + 1)) = negL (ls.take k) ++ (if l.neg then (normD (ltPd l)).toList else []) := by
  unfold negL
  rw [take_snoc_of h, List.filterMap_append]
  congr 1
  cases hn : l.neg
  · simp [hn]
  · cases hm : normD (ltPd l) <;> simp [hn, hm]
theorem posL_len (ls : List Lt) : (posL ls).length ≤ ls.length := List.length_filterMap_le _ _
theorem negL_len (ls : List Lt) : (negL ls).length ≤ ls.length := List.length_filterMap_le _ _
end Go.Proofs.YtimklglliffpcaaGreat
