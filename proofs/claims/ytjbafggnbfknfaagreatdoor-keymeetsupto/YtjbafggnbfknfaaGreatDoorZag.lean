/- symMerge where one run is one pair: what it makes of the row. -/
import Derived.Test.YtjbafggnbfknfaaGreatDoorStL
namespace Go.Proofs.YtjbafggnbfknfaaGreatDoor
open Go.RowKit Go.Sort Go.Shelf

theorem bang_of {l : List Pr} {i : Nat} {z : Pr} (h : l[i]? = some z) : l.toArray[i]! = z := by
  obtain ⟨hi, rfl⟩ := List.getElem?_eq_some_iff.1 h
  rw [getElem!_pos _ i (by simpa using hi)]
  simp
theorem mid_get (P M S : List Pr) {q : Nat} (hq : q < M.length) : (P ++ M ++ S)[P.length + q]? = M[q]? := by
  rw [List.append_assoc, List.getElem?_append_right (by omega), List.getElem?_append_left (by omega), Nat.add_sub_cancel_left]
theorem mvU_list (P : List Pr) (x : Pr) (C S : List Pr) : ∀ t, t ≤ C.length → (mvU (P ++ [x] ++ C ++ S).toArray P.length t).toList = P ++ C.take t ++ [x] ++ C.drop t ++ S
  | 0, _ => by simp [mvU]
  | t + 1, ht => by
    have ih := mvU_list P x C S t (by omega)
    obtain ⟨y, hy, hd⟩ := get_at (l := C) (k := t) (by omega)
    rw [mvU]
    generalize mvU (P ++ [x] ++ C ++ S).toArray P.length t = D at ih ⊢
    have hl : (P ++ C.take t).length = P.length + t := by rw [List.length_append, List.length_take]; omega
    have ih2 : D.toList = (P ++ C.take t) ++ [x, y] ++ (C.drop (t + 1) ++ S) := by rw [ih, hd]; simp
    have hD : D = ((P ++ C.take t) ++ [x, y] ++ (C.drop (t + 1) ++ S)).toArray := by rw [← ih2]
    have gx : D[P.length + t]! = x := by
      rw [hD, ← hl]
      exact bang_of (by simp)
    have gy : D[P.length + t + 1]! = y := by
      rw [hD, ← hl]
      exact bang_of (by have := mid_get (P ++ C.take t) [x, y] (C.drop (t + 1) ++ S) (q := 1) (by simp); simpa using this)
    unfold Go.Sort.swp
    rw [gx, gy, hD, take_snoc_of hy]
    simp only [Array.toList_setIfInBounds]
    have hq : P ++ (C.take t ++ [y]) ++ [x] ++ C.drop (t + 1) ++ S = (P ++ C.take t) ++ [y, x] ++ (C.drop (t + 1) ++ S) := by simp
    rw [← hl, hq]
    generalize P ++ C.take t = Q
    simp
theorem mvD_list (P A : List Pr) (y : Pr) (S : List Pr) : ∀ t, t ≤ A.length → (mvD (P ++ A ++ [y] ++ S).toArray (P.length + A.length) t).toList = P ++ A.take (A.length - t) ++ [y] ++ A.drop (A.length - t) ++ S
  | 0, _ => by simp [mvD]
  | t + 1, ht => by
    have ih := mvD_list P A y S t (by omega)
    obtain ⟨s, hs⟩ : ∃ s, A.length - (t + 1) = s := ⟨_, rfl⟩
    have hs1 : A.length - t = s + 1 := by omega
    obtain ⟨x, hx, hd⟩ := get_at (l := A) (k := s) (by omega)
    rw [mvD]
    rw [hs1, take_snoc_of hx] at ih
    rw [hs, hd]
    generalize mvD (P ++ A ++ [y] ++ S).toArray (P.length + A.length) t = D at ih ⊢
    have hl : (P ++ A.take s).length = P.length + s := by rw [List.length_append, List.length_take]; omega
    have ih2 : D.toList = (P ++ A.take s) ++ [x, y] ++ (A.drop (s + 1) ++ S) := by rw [ih]; simp
    have hD : D = ((P ++ A.take s) ++ [x, y] ++ (A.drop (s + 1) ++ S)).toArray := by rw [← ih2]
    have e1 : P.length + A.length - t = P.length + s + 1 := by omega
    have gx : D[P.length + s]! = x := by
      rw [hD, ← hl]
      exact bang_of (by simp)
    have gy : D[P.length + s + 1]! = y := by
      rw [hD, ← hl]
      exact bang_of (by have := mid_get (P ++ A.take s) [x, y] (A.drop (s + 1) ++ S) (q := 1) (by simp); simpa using this)
    unfold Go.Sort.swp
    rw [e1, Nat.add_sub_cancel, gx, gy, hD]
    simp only [Array.toList_setIfInBounds]
    rw [← hl]
    generalize P ++ A.take s = Q
    simp
theorem symOne (B g cap a m b N : Nat) (P : List Pr) (x : Pr) (C S : List Pr) (w : World) (h : OwnK encR 42 4 B w (some ⟨g, 0, none⟩) cap (P ++ [x] ++ C ++ S)) (hN : (P ++ [x] ++ C ++ S).length = N) (ha : P.length = a) (hm : a + 1 = m) (hb : m + C.length = b) (hC : Sd C) (hl : N < 4611686018427387904) :
    Calls Tryz.prog 153 #[.slice (some ⟨g, 0, none⟩) N cap, .int .i64 a, .int .i64 m, .int .i64 b, .func (.func 66) #[] #[]] w fun e w' => e = .returned (.tuple #[]) ∧ ∃ D, Sd D ∧ Stb ([x] ++ C) D ∧ OwnK encR 42 4 B w' (some ⟨g, 0, none⟩) cap (P ++ D ++ S) ∧ Below B w w' := by
  obtain ⟨hH, hg⟩ := own_holdsR h
  have hN' := hN
  simp only [List.length_append, List.length_cons, List.length_nil] at hN'
  have hsz : (P ++ [x] ++ C ++ S).toArray.size = N := by simpa using hN
  have hcon := symOneG (P := Tryz.prog) (by kernel_rfl) Tryz.func153 4 Tryz.isAgg42 Tryz.sizeOf42 Tryz.underlying26 Tryz.underlying3 Tryz.underlying89 encR encR_len encR_one g 0 cap a m b (P ++ [x] ++ C ++ S).toArray w enters66 (cmpLaysR g 0 _ w) hH hg hm (by omega) (by rw [hsz]; omega) (by rw [hsz]; exact hl)
  rw [hsz] at hcon
  refine hcon.mono fun e w' ⟨he, i, hi1, hi2, b1, b2, n, os, hw⟩ => ⟨he, ?_⟩
  have gA : (P ++ [x] ++ C ++ S).toArray[a]! = x := bang_of (by
    rw [← ha]
    simp)
  have gC : ∀ q z, C[q]? = some z → (P ++ [x] ++ C ++ S).toArray[m + q]! = z := fun q z hq => bang_of (by
    have := mid_get (P ++ [x]) C S (q := q) (List.getElem?_eq_some_iff.1 hq).1
    rw [hq, List.length_append, List.length_singleton, ha, hm] at this
    exact this)
  obtain ⟨t, rfl⟩ : ∃ t, i = m + t := ⟨i - m, by omega⟩
  rw [Nat.add_sub_cancel_left] at hw
  have hml := mvU_list P x C S t (by omega)
  rw [ha] at hml
  obtain ⟨o1, o2⟩ := own_world (d' := (mvU (P ++ [x] ++ C ++ S).toArray a t).toList) n os h (by simp [size_mvU])
  rw [Array.toArray_toList, ← hw, hml] at o1
  rw [Array.toArray_toList, ← hw] at o2
  have hCs : C = C.take t ++ C.drop t := (List.take_append_drop t C).symm
  have hC2 := hC
  rw [hCs] at hC2
  obtain ⟨s1, s2, s3⟩ := sd_app.1 hC2
  have sx : Sd [x] := List.pairwise_singleton _ _
  have l1 : ∀ u ∈ [x], ∀ y ∈ C.take t, cmpN y u < 0 := all_lt sx s1 fun u y hu hy => by
    have ht : 0 < t := Nat.pos_of_ne_zero fun e => by subst e; simp at hy
    rw [List.length_take, Nat.min_eq_left (by omega), List.getElem?_take, if_pos (by omega)] at hy
    have := b1 (by omega)
    rw [gA, show m + t - 1 = m + (t - 1) by omega, gC _ _ hy] at this
    simp at hu
    rw [← hu]; exact this
  have l2 : ∀ u ∈ [x], ∀ y ∈ C.drop t, cmpN u y ≤ 0 := all_le sx s2 fun u y hu hy => by
    rw [List.getElem?_drop, Nat.add_zero] at hy
    have := b2 (by have := (List.getElem?_eq_some_iff.1 hy).1; omega)
    rw [gA, gC _ _ hy, cmpN_neg] at this
    simp at hu
    rw [← hu]; omega
  obtain ⟨r1, r2⟩ := halves (A1 := []) (A2 := [x]) (B1 := C.take t) (B2 := C.drop t) (C1 := C.take t) (C2 := [x] ++ C.drop t) sx hC2 (fun _ h => by cases h) l1 s1 (sd_app.2 ⟨sx, s2, l2⟩) (Stb.refl _) (Stb.refl _)
  refine ⟨_, r1, ?_, ?_, o2⟩
  · rw [List.take_append_drop] at r2
    simpa using r2
  · simpa using o1
theorem symLast (B g cap a m b N : Nat) (P A : List Pr) (y : Pr) (S : List Pr) (w : World) (h : OwnK encR 42 4 B w (some ⟨g, 0, none⟩) cap (P ++ A ++ [y] ++ S)) (hN : (P ++ A ++ [y] ++ S).length = N) (ha : P.length = a) (hm : a + A.length = m) (hb : m + 1 = b) (hA : Sd A) (h2 : 1 < A.length) (hl : N < 4611686018427387904) :
    Calls Tryz.prog 153 #[.slice (some ⟨g, 0, none⟩) N cap, .int .i64 a, .int .i64 m, .int .i64 b, .func (.func 66) #[] #[]] w fun e w' => e = .returned (.tuple #[]) ∧ ∃ D, Sd D ∧ Stb (A ++ [y]) D ∧ OwnK encR 42 4 B w' (some ⟨g, 0, none⟩) cap (P ++ D ++ S) ∧ Below B w w' := by
  obtain ⟨hH, hg⟩ := own_holdsR h
  have hN' := hN
  simp only [List.length_append, List.length_cons, List.length_nil] at hN'
  have hsz : (P ++ A ++ [y] ++ S).toArray.size = N := by simpa using hN
  have hcon := symLastG (P := Tryz.prog) (by kernel_rfl) Tryz.func153 4 Tryz.isAgg42 Tryz.sizeOf42 Tryz.underlying26 Tryz.underlying3 Tryz.underlying89 encR encR_len encR_one g 0 cap a m b (P ++ A ++ [y] ++ S).toArray w enters66 (cmpLaysR g 0 _ w) hH hg hb (by omega) (by rw [hsz]; omega) (by rw [hsz]; exact hl)
  rw [hsz] at hcon
  refine hcon.mono fun e w' ⟨he, i, hi1, hi2, b1, b2, n, os, hw⟩ => ⟨he, ?_⟩
  have gY : (P ++ A ++ [y] ++ S).toArray[m]! = y := bang_of (by
    have := mid_get (P ++ A) [y] S (q := 0) (by simp)
    rw [List.length_append, ha, hm] at this
    simpa using this)
  have gA : ∀ q z, A[q]? = some z → (P ++ A ++ [y] ++ S).toArray[a + q]! = z := fun q z hq => bang_of (by
    have := mid_get P A ([y] ++ S) (q := q) (List.getElem?_eq_some_iff.1 hq).1
    rw [hq, ha] at this
    simpa using this)
  obtain ⟨t, rfl⟩ : ∃ t, i = a + t := ⟨i - a, by omega⟩
  have hml := mvD_list P A y S (m - (a + t)) (by omega)
  rw [ha, hm, show A.length - (m - (a + t)) = t by omega] at hml
  obtain ⟨o1, o2⟩ := own_world (d' := (mvD (P ++ A ++ [y] ++ S).toArray m (m - (a + t))).toList) n os h (by simp [size_mvD])
  rw [Array.toArray_toList, ← hw, hml] at o1
  rw [Array.toArray_toList, ← hw] at o2
  have hAs : A = A.take t ++ A.drop t := (List.take_append_drop t A).symm
  have hA2 := hA
  rw [hAs] at hA2
  obtain ⟨s1, s2, s3⟩ := sd_app.1 hA2
  have sy : Sd [y] := List.pairwise_singleton _ _
  have l1 : ∀ u ∈ A.drop t, ∀ v ∈ [y], cmpN v u < 0 := all_lt s2 sy fun u v hu hv => by
    rw [List.getElem?_drop, Nat.add_zero] at hu
    have := b2 (by have := (List.getElem?_eq_some_iff.1 hu).1; omega)
    rw [gY, gA _ _ hu] at this
    simp at hv
    rw [← hv]; exact this
  have l2 : ∀ u ∈ A.take t, ∀ v ∈ [y], cmpN u v ≤ 0 := all_le s1 sy fun u v hu hv => by
    have ht : 0 < t := Nat.pos_of_ne_zero fun e => by subst e; simp at hu
    rw [List.length_take, Nat.min_eq_left (by omega), List.getElem?_take, if_pos (by omega)] at hu
    have := b1 (by omega)
    rw [gY, show a + t - 1 = a + (t - 1) by omega, gA _ _ hu, cmpN_neg] at this
    simp at hv
    rw [← hv]; omega
  obtain ⟨r1, r2⟩ := halves (A1 := A.take t) (A2 := A.drop t) (B1 := [y]) (B2 := []) (C1 := A.take t ++ [y]) (C2 := A.drop t) hA2 (by simpa using sy) (fun _ _ _ h => by cases h) l1 (sd_app.2 ⟨s1, sy, l2⟩) s2 (Stb.refl _) (by simpa using Stb.refl _)
  refine ⟨_, r1, ?_, ?_, o2⟩
  · rw [List.take_append_drop] at r2
    simpa using r2
  · simpa using o1
end Go.Proofs.YtjbafggnbfknfaaGreatDoor
namespace Go.Proofs.YtjbafggnbfknfaaGreatDoor
open Go.RowKit Go.Sort Go.Shelf

theorem cut_of {P A C S : List Pr} {a m b mid s e lo0 r0 : Nat} (ha : P.length = a) (hm : a + A.length = m) (hb : m + C.length = b) (hmid : mid = (a + b) / 2)
    (hbr : (mid < m ∧ lo0 + b = mid + m ∧ r0 = mid) ∨ (m ≤ mid ∧ lo0 = a ∧ r0 = m)) (h1 : lo0 ≤ s) (h2 : s ≤ r0) (he : e + s = mid + m) (hA : Sd A) (hC : Sd C)
    (b1 : lo0 < s → ∀ x y, (P ++ A ++ C ++ S)[e]? = some x → (P ++ A ++ C ++ S)[s - 1]? = some y → 0 ≤ cmpN x y)
    (b2 : s < r0 → ∀ x y, (P ++ A ++ C ++ S)[e - 1]? = some x → (P ++ A ++ C ++ S)[s]? = some y → cmpN x y < 0) :
    (a ≤ s ∧ s ≤ m ∧ m ≤ e ∧ e ≤ b) ∧ (∀ x ∈ A.take (s - a), ∀ y ∈ C.drop (e - m), cmpN x y ≤ 0) ∧ (∀ x ∈ A.drop (s - a), ∀ y ∈ C.take (e - m), cmpN y x < 0) := by
  have hin : a ≤ s ∧ s ≤ m ∧ m ≤ e ∧ e ≤ b := by omega
  have gA : ∀ q z, A[q]? = some z → (P ++ A ++ C ++ S)[a + q]? = some z := fun q z hq => by
    have := mid_get P A (C ++ S) (q := q) (List.getElem?_eq_some_iff.1 hq).1
    rw [hq, ha, ← List.append_assoc] at this
    exact this
  have gC : ∀ q z, C[q]? = some z → (P ++ A ++ C ++ S)[m + q]? = some z := fun q z hq => by
    have := mid_get (P ++ A) C S (q := q) (List.getElem?_eq_some_iff.1 hq).1
    rw [hq, List.length_append, ha, hm] at this
    exact this
  have sA := sd_app.1 (by rw [List.take_append_drop (s - a) A]; exact hA : Sd (A.take (s - a) ++ A.drop (s - a)))
  have sC := sd_app.1 (by rw [List.take_append_drop (e - m) C]; exact hC : Sd (C.take (e - m) ++ C.drop (e - m)))
  refine ⟨hin, all_le sA.1 sC.2.1 fun x y hx hy => ?_, all_lt sA.2.1 sC.1 fun x y hx hy => ?_⟩
  · rw [List.getElem?_drop, Nat.add_zero] at hy
    have hyl := (List.getElem?_eq_some_iff.1 hy).1
    have hs : a < s := Classical.byContradiction fun hn => by
      rw [show s - a = 0 by omega] at hx
      simp at hx
    rw [List.length_take, Nat.min_eq_left (by omega), List.getElem?_take, if_pos (by omega)] at hx
    have := b1 (by omega) y x (by have := gC _ _ hy; rwa [show m + (e - m) = e by omega] at this) (by have := gA _ _ hx; rwa [show a + (s - a - 1) = s - 1 by omega] at this)
    rw [cmpN_neg] at this
    omega
  · rw [List.getElem?_drop, Nat.add_zero] at hx
    have hxl := (List.getElem?_eq_some_iff.1 hx).1
    have hs : m < e := Classical.byContradiction fun hn => by
      rw [show e - m = 0 by omega] at hy
      simp at hy
    rw [List.length_take, Nat.min_eq_left (by omega), List.getElem?_take, if_pos (by omega)] at hy
    exact b2 (by omega) y x (by have := gC _ _ hy; rwa [show m + (e - m - 1) = e - 1 by omega] at this) (by have := gA _ _ hx; rwa [show a + (s - a) = s by omega] at this)
end Go.Proofs.YtjbafggnbfknfaaGreatDoor
