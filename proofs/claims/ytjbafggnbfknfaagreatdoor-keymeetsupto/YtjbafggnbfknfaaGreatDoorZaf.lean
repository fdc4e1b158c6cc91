/- slices.rotateCmpFunc over pairs: two neighbours' blocks change places. -/
import Derived.Test.YtjbafggnbfknfaaGreatDoorZae
namespace Go.Proofs.YtjbafggnbfknfaaGreatDoor
open Go.RowKit Go.Sort Go.Shelf

/-- Two runs of one length change places. -/
theorem swapBlocks (B g cap a b n N : Nat) (fv : Value) (P X M Y S : List Pr) (w : World) (h : OwnK encR 42 4 B w (some ⟨g, 0, none⟩) cap (P ++ X ++ M ++ Y ++ S)) (hN : (P ++ X ++ M ++ Y ++ S).length = N) (hX : X.length = n) (hY : Y.length = n) (ha : P.length = a) (hb : P.length + X.length + M.length = b) (hl : N < 4611686018427387904) :
    Calls Tryz.prog 180 #[.slice (some ⟨g, 0, none⟩) N cap, .int .i64 a, .int .i64 b, .int .i64 n, fv] w fun e w' => e = .returned (.tuple #[]) ∧ OwnK encR 42 4 B w' (some ⟨g, 0, none⟩) cap (P ++ Y ++ M ++ X ++ S) ∧ Below B w w' := by
  have hN' := hN
  simp only [List.length_append] at hN'
  have hc := swapRange B g cap a b n fv (P ++ X ++ M ++ Y ++ S) w h (by rw [hN]; omega) (by rw [hN]; omega) (by rw [hN]; exact hl)
  have hs := swR_blocks P M S n X Y hX hY
  rw [ha, hb.symm.trans (by rw [ha])] at *
  rw [← ha, hb, ha] at hs
  rw [hN, hs] at hc
  exact hc

set_option maxHeartbeats 4000000 in
set_option maxRecDepth 1000000 in
theorem rotate (B g cap a m b N : Nat) (fv : Value) (P X Y S : List Pr) (w : World) (h : OwnK encR 42 4 B w (some ⟨g, 0, none⟩) cap (P ++ X ++ Y ++ S)) (hN : (P ++ X ++ Y ++ S).length = N) (hX : 0 < X.length) (hY : 0 < Y.length) (ha : P.length = a) (hm : P.length + X.length = m) (hb : P.length + X.length + Y.length = b) (hl : N < 4611686018427387904) :
    Calls Tryz.prog 172 #[.slice (some ⟨g, 0, none⟩) N cap, .int .i64 a, .int .i64 m, .int .i64 b, fv] w fun e w' => e = .returned (.tuple #[]) ∧ OwnK encR 42 4 B w' (some ⟨g, 0, none⟩) cap (P ++ Y ++ X ++ S) ∧ Below B w w' := by
  have H0 : Hid (OwnK encR 42 4 B w (some ⟨g, 0, none⟩) cap (P ++ X ++ Y ++ S) ∧ (P ++ X ++ Y ++ S).length = N ∧ P.length + X.length = m) := hide ⟨h, hN, hm⟩
  obtain ⟨T, hT⟩ : ∃ T, P ++ Y ++ X ++ S = T := ⟨_, rfl⟩
  have HT := hide hT
  rw [hT]
  have hN' := hN
  simp only [List.length_append] at hN'
  obtain ⟨i0, hi0⟩ : ∃ i0, X.length = i0 := ⟨_, rfl⟩
  obtain ⟨j0, hj0⟩ : ∃ j0, Y.length = j0 := ⟨_, rfl⟩
  have w1 : IntKind.i64.wrap ((m : Int) - (a : Int)) = (i0 : Int) := by rw [IntKind.wrap_i64]; omega
  have w2 : IntKind.i64.wrap ((b : Int) - (m : Int)) = (j0 : Int) := by rw [IntKind.wrap_i64]; omega
  have e1 : (m : Int) - (a : Int) = (i0 : Int) := by omega
  have e2 : (b : Int) - (m : Int) = (j0 : Int) := by omega
  have w3 : IntKind.i64.wrap (i0 : Int) = (i0 : Int) := by rw [IntKind.wrap_i64]; omega
  have w4 : IntKind.i64.wrap (j0 : Int) = (j0 : Int) := by rw [IntKind.wrap_i64]; omega
  have i0p : 0 < i0 := by omega
  have j0p : 0 < j0 := by omega
  have HL := hide (show X.length = i0 ∧ Y.length = j0 from ⟨hi0, hj0⟩)
  have hmN : m ≤ N := by omega
  clear h hN hT hN' hX hY ha hm hb hi0 hj0
  go_enter Tryz.func172, Tryz.ntmps172
  go_wp2
  go_loopw [10, 11] (fun vi vj wr => ∃ (i j : Nat) (P' U V S' : List Pr), vi = .int .i64 i ∧ vj = .int .i64 j ∧ 0 < i ∧ 0 < j ∧ i ≤ m ∧ m + j ≤ N ∧ Hid (U.length = i ∧ V.length = j ∧ P'.length + i = m ∧ (P' ++ U ++ V ++ S').length = N ∧ P' ++ V ++ U ++ S' = T) ∧ Hid (OwnK encR 42 4 B wr (some ⟨g, 0, none⟩) cap (P' ++ U ++ V ++ S')) ∧ Hid (Below B w wr)) (fun vi vj _ => (intOf vi).toNat + (intOf vj).toNat)
  case atStart =>
    have h1 := unhide HL
    have h2 := unhide H0
    have h3 := h2.2.1
    simp only [List.length_append] at h3
    exact ⟨i0, j0, P, X, Y, S, by first | rfl | go_num, by first | rfl | go_num, i0p, j0p, by omega, by omega, hide ⟨h1.1, h1.2, by omega, h2.2.1, unhide HT⟩, hide h2.1, hide (Below.refl _ _)⟩
  case round =>
    obtain ⟨i, j, P', U, V, S', rfl, rfl, hi, hj, him, hjN, HS, HO, HB⟩ := hrel
    obtain ⟨p, hp⟩ : ∃ p, p + i = m := ⟨m - i, by omega⟩
    have x1 : IntKind.i64.wrap ((m : Int) - (i : Int)) = (p : Int) := by rw [IntKind.wrap_i64]; omega
    have x2 : (m : Int) - (i : Int) = (p : Int) := by omega
    have HP := hide hp
    have HI := hide (show 0 < i ∧ 0 < j ∧ i ≤ m ∧ m + j ≤ N from ⟨hi, hj, him, hjN⟩)
    by_cases hij : i = j
    · subst hij
      have hc := swapBlocks B g cap p m i N fv P' U [] V S' wr (by simpa using unhide HO) (by simpa using (unhide HS).2.2.2.1) (unhide HS).1 (unhide HS).2.1 (by have := (unhide HS).2.2.1; omega) (by have := (unhide HS).2.2.1; have := (unhide HS).1; simp; omega) hl
      have HC := hide hc
      clear hc hp him hjN
      go_wp2_with (go_at_call 180; refine (unhide HC).mono ?_; rintro e wn ⟨rfl, ho, hbn⟩; have HO2 := hide ho; have HB2 := hide ((unhide HB).trans hbn); clear ho hbn)
      go_end0
      refine ⟨rfl, ?_, unhide HB2⟩
      rw [← (unhide HS).2.2.2.2]
      simpa using unhide HO2
    · have hne : ¬ (i : Int) = (j : Int) := by omega
      by_cases hgt : j < i
      · have hgz : (j : Int) < (i : Int) := by omega
        have hu : U = U.take j ++ U.drop j := (List.take_append_drop j U).symm
        have hlu : (U.take j).length = j := by rw [List.length_take, (unhide HS).1]; omega
        have hld : (U.drop j).length = i - j := by rw [List.length_drop, (unhide HS).1]
        generalize hU1 : U.take j = U1 at hu hlu
        generalize hU2 : U.drop j = U2 at hu hld
        subst hu
        clear hU1 hU2
        have hc := swapBlocks B g cap p m j N fv P' U1 U2 V S' wr (by simpa using unhide HO) (by simpa using (unhide HS).2.2.2.1) hlu (unhide HS).2.1 (by have := (unhide HS).2.2.1; omega) (by have := (unhide HS).2.2.1; omega) hl
        have HC := hide hc
        have x3 : IntKind.i64.wrap ((i : Int) - (j : Int)) = (i : Int) - (j : Int) := by rw [IntKind.wrap_i64]; omega
        have HLU := hide (show U1.length = j ∧ U2.length = i - j from ⟨hlu, hld⟩)
        clear hc hp him hjN hlu hld
        go_wp2_with (go_at_call 180; refine (unhide HC).mono ?_; rintro e wn ⟨rfl, ho, hbn⟩; have HO2 := hide ho; have HB2 := hide ((unhide HB).trans hbn); clear ho hbn)
        go_roundw
        case rel =>
          have h1 := unhide HLU
          have h2 := unhide HS
          have h3 := unhide HI
          have h4 := h2.2.2.2.1
          simp only [List.length_append] at h4
          refine ⟨i - j, j, P' ++ V, U2, U1, S', by first | rfl | (congr 1; omega), rfl, by omega, hj, by omega, by omega, hide ⟨h1.2, h1.1, by simp; omega, by simp; omega, by rw [← h2.2.2.2.2]; simp⟩, hide (by simpa using unhide HO2), HB2⟩
        case measure => simp [intOf]; omega
      · have hgz : ¬ (j : Int) < (i : Int) := by omega
        obtain ⟨q, hq⟩ : ∃ q, q + i = m + j := ⟨m + j - i, by omega⟩
        have x3 : IntKind.i64.wrap ((m : Int) + (j : Int)) = (m : Int) + (j : Int) := by rw [IntKind.wrap_i64]; omega
        have x4 : IntKind.i64.wrap ((m : Int) + (j : Int) - (i : Int)) = (q : Int) := by rw [IntKind.wrap_i64]; omega
        have x5 : (m : Int) + (j : Int) - (i : Int) = (q : Int) := by omega
        have x7 : IntKind.i64.wrap (q : Int) = (q : Int) := by rw [IntKind.wrap_i64]; omega
        have x6 : IntKind.i64.wrap ((j : Int) - (i : Int)) = (j : Int) - (i : Int) := by rw [IntKind.wrap_i64]; omega
        have hv : V = V.take (j - i) ++ V.drop (j - i) := (List.take_append_drop (j - i) V).symm
        have hlu : (V.take (j - i)).length = j - i := by rw [List.length_take, (unhide HS).2.1]; omega
        have hld : (V.drop (j - i)).length = i := by rw [List.length_drop, (unhide HS).2.1]; omega
        generalize hU1 : V.take (j - i) = V1 at hv hlu
        generalize hU2 : V.drop (j - i) = V2 at hv hld
        subst hv
        clear hU1 hU2
        have hc := swapBlocks B g cap p q i N fv P' U V1 V2 S' wr (by simpa using unhide HO) (by simpa using (unhide HS).2.2.2.1) (unhide HS).1 hld (by have := (unhide HS).2.2.1; omega) (by have := (unhide HS).2.2.1; have := (unhide HS).1; omega) hl
        have HC := hide hc
        have HLU := hide (show V1.length = j - i ∧ V2.length = i from ⟨hlu, hld⟩)
        clear hc hp hq him hjN hlu hld
        go_wp2_with (go_at_call 180; refine (unhide HC).mono ?_; rintro e wn ⟨rfl, ho, hbn⟩; have HO2 := hide ho; have HB2 := hide ((unhide HB).trans hbn); clear ho hbn)
        go_roundw
        case rel =>
          have h1 := unhide HLU
          have h2 := unhide HS
          have h3 := unhide HI
          have h4 := h2.2.2.2.1
          simp only [List.length_append] at h4
          refine ⟨i, j - i, P', V2, V1, U ++ S', rfl, by first | rfl | (congr 1; omega), hi, by omega, by omega, by omega, hide ⟨h1.2, h1.1, h2.2.2.1, by simp; omega, by rw [← h2.2.2.2.2]; simp⟩, hide (by simpa using unhide HO2), HB2⟩
        case measure => simp [intOf]; omega
end Go.Proofs.YtjbafggnbfknfaaGreatDoor
namespace Go.Proofs.YtjbafggnbfknfaaGreatDoor
open Go.RowKit Go.Sort Go.Shelf

/-- In the order of the names. -/
def Sd (l : List Pr) : Prop := l.Pairwise fun x y => cmpN x y ≤ 0
/-- The pairs of each name stand in the order in which they stood. -/
def Stb (l l' : List Pr) : Prop := l'.length = l.length ∧ ∀ nm : ByteArray, l'.filter (fun x => x.name.data.toList == nm.data.toList) = l.filter (fun x => x.name.data.toList == nm.data.toList)
theorem Stb.refl (l : List Pr) : Stb l l := ⟨rfl, fun _ => rfl⟩
theorem Stb.trans {a b c : List Pr} (h : Stb a b) (h2 : Stb b c) : Stb a c := ⟨h2.1.trans h.1, fun nm => (h2.2 nm).trans (h.2 nm)⟩
theorem Stb.mem {l l' : List Pr} (h : Stb l l') {x : Pr} (hx : x ∈ l') : x ∈ l := by
  have h1 : x ∈ l'.filter (fun y => y.name.data.toList == x.name.data.toList) := by rw [List.mem_filter]; exact ⟨hx, by simp⟩
  rw [h.2] at h1
  exact (List.mem_filter.1 h1).1
theorem Stb.app {a b a' b' : List Pr} (h : Stb a a') (h2 : Stb b b') : Stb (a ++ b) (a' ++ b') := ⟨by simp [h.1, h2.1], fun nm => by rw [List.filter_append, List.filter_append, h.2, h2.2]⟩
/-- Blocks that bear no name in common change places. -/
theorem stb_blocks (P X Y S : List Pr) (h : ∀ x ∈ X, ∀ y ∈ Y, cmpN y x < 0) : Stb (P ++ X ++ Y ++ S) (P ++ Y ++ X ++ S) :=
  ste_blocks P X Y S fun x hx y hy e => by
    have := h x hx y hy
    have := cmpN_zero.2 e.symm
    omega
theorem sd_app {a b : List Pr} : Sd (a ++ b) ↔ Sd a ∧ Sd b ∧ ∀ x ∈ a, ∀ y ∈ b, cmpN x y ≤ 0 := List.pairwise_append
/-- Two sorted runs, cut so that what is ahead in both belongs ahead of what is behind in both. -/
theorem halves {A1 A2 B1 B2 C1 C2 : List Pr} (hA : Sd (A1 ++ A2)) (hB : Sd (B1 ++ B2)) (h12 : ∀ x ∈ A1, ∀ y ∈ B2, cmpN x y ≤ 0) (h21 : ∀ x ∈ A2, ∀ y ∈ B1, cmpN y x < 0)
    (c1 : Sd C1) (c2 : Sd C2) (s1 : Stb (A1 ++ B1) C1) (s2 : Stb (A2 ++ B2) C2) : Sd (C1 ++ C2) ∧ Stb (A1 ++ A2 ++ (B1 ++ B2)) (C1 ++ C2) := by
  constructor
  · refine sd_app.2 ⟨c1, c2, fun x hx y hy => ?_⟩
    have hx := s1.mem hx
    have hy := s2.mem hy
    rw [List.mem_append] at hx hy
    rcases hx with hx | hx <;> rcases hy with hy | hy
    · exact (sd_app.1 hA).2.2 x hx y hy
    · exact h12 x hx y hy
    · exact Int.le_of_lt (h21 y hy x hx)
    · exact (sd_app.1 hB).2.2 x hx y hy
  · have h1 := stb_blocks A1 A2 B1 B2 h21
    have h2 := s1.app s2
    have e1 : A1 ++ A2 ++ (B1 ++ B2) = A1 ++ A2 ++ B1 ++ B2 := by simp
    have e2 : A1 ++ B1 ++ (A2 ++ B2) = A1 ++ B1 ++ A2 ++ B2 := by simp
    rw [e2] at h2
    rw [e1]
    exact h1.trans h2
/-- The last of one run against the first of another decides for all. -/
theorem all_le {A B : List Pr} (hA : Sd A) (hB : Sd B) (h : ∀ x y, A[A.length - 1]? = some x → B[0]? = some y → cmpN x y ≤ 0) : ∀ x ∈ A, ∀ y ∈ B, cmpN x y ≤ 0 := by
  intro x hx y hy
  obtain ⟨i, hi, rfl⟩ := List.getElem_of_mem hx
  obtain ⟨j, hj, rfl⟩ := List.getElem_of_mem hy
  have h1 := h A[A.length - 1] B[0] (List.getElem?_eq_getElem (by omega)) (List.getElem?_eq_getElem (by omega))
  have h2 : cmpN A[i] A[A.length - 1] ≤ 0 := by
    by_cases e : i = A.length - 1
    · subst e; exact Int.le_of_eq (cmpN_zero.2 rfl)
    · exact List.pairwise_iff_getElem.1 hA i (A.length - 1) hi (by omega) (by omega)
  have h3 : cmpN B[0] B[j] ≤ 0 := by
    by_cases e : j = 0
    · subst e; exact Int.le_of_eq (cmpN_zero.2 rfl)
    · exact List.pairwise_iff_getElem.1 hB 0 j (by omega) hj (by omega)
  exact cmpN_trans h2 (cmpN_trans h1 h3)
theorem cmpN_lt2 {x y z : Pr} (h1 : cmpN x y ≤ 0) (h2 : cmpN y z < 0) : cmpN x z < 0 := by
  have h := cmpN_trans h1 (Int.le_of_lt h2)
  refine Classical.byContradiction fun hn => ?_
  have e : x.name = z.name := cmpN_zero.1 (by omega)
  have h3 : cmpN z y ≤ 0 := by unfold cmpN at *; rw [← e]; exact h1
  rw [cmpN_neg y z] at h3
  omega
theorem all_lt {A B : List Pr} (hA : Sd A) (hB : Sd B) (h : ∀ x y, A[0]? = some x → B[B.length - 1]? = some y → cmpN y x < 0) : ∀ x ∈ A, ∀ y ∈ B, cmpN y x < 0 := by
  intro x hx y hy
  obtain ⟨i, hi, rfl⟩ := List.getElem_of_mem hx
  obtain ⟨j, hj, rfl⟩ := List.getElem_of_mem hy
  have h1 := h A[0] B[B.length - 1] (List.getElem?_eq_getElem (by omega)) (List.getElem?_eq_getElem (by omega))
  have h2 : cmpN A[0] A[i] ≤ 0 := by
    by_cases e : i = 0
    · subst e; exact Int.le_of_eq (cmpN_zero.2 rfl)
    · exact List.pairwise_iff_getElem.1 hA 0 i (by omega) hi (by omega)
  have h3 : cmpN B[j] B[B.length - 1] ≤ 0 := by
    by_cases e : j = B.length - 1
    · subst e; exact Int.le_of_eq (cmpN_zero.2 rfl)
    · exact List.pairwise_iff_getElem.1 hB j (B.length - 1) hj (by omega) (by omega)
  exact cmpN_lt2 h3 (cmpN_lt h1 h2)
/-- What turned within two places, and is sorted there. -/
theorem seg_of {P M S d' : List Pr} {a b : Nat} (ha : P.length = a) (hb : P.length + M.length = b) (hs : Ste (P ++ M ++ S) d') (ho : Out (P ++ M ++ S) d' a b) (hr : Srt d' a b) : ∃ M', d' = P ++ M' ++ S ∧ Sd M' ∧ Stb M M' := by
  subst ha hb
  have hl := hs.1
  have hl' : d'.length = P.length + M.length + S.length := by rw [hl]; simp; omega
  have e1 : d'.take P.length = P := by
    apply List.ext_getElem?
    intro p
    rw [List.getElem?_take]
    split
    · next h => rw [ho p (Or.inl h), List.append_assoc, List.getElem?_append_left h]
    · next h => rw [List.getElem?_eq_none (by omega)]
  have e3 : d'.drop (P.length + M.length) = S := by
    apply List.ext_getElem?
    intro p
    rw [List.getElem?_drop, ho _ (Or.inr (by omega)), List.getElem?_append_right (by simp), List.length_append]
    congr 1
    omega
  refine ⟨(d'.drop P.length).take M.length, ?_, ?_, ?_⟩
  · conv => lhs; rw [← List.take_append_drop P.length d', e1, ← List.take_append_drop M.length (d'.drop P.length), List.drop_drop, e3]
    simp
  · unfold Sd
    rw [List.pairwise_iff_getElem]
    intro i j hi hj hij
    simp only [List.length_take, List.length_drop] at hi hj
    refine hr (P.length + i) (P.length + j) _ _ (by omega) (by omega) (by omega) ?_ ?_
    · rw [List.getElem?_eq_getElem (by omega)]; simp
    · rw [List.getElem?_eq_getElem (by omega)]; simp
  · have e2 : d' = P ++ (d'.drop P.length).take M.length ++ S := by
      conv => lhs; rw [← List.take_append_drop P.length d', e1, ← List.take_append_drop M.length (d'.drop P.length), List.drop_drop, e3]
      simp
    generalize (d'.drop P.length).take M.length = M' at e2
    subst e2
    refine ⟨by simp at hl; omega, fun nm => ?_⟩
    have := hs.2 nm
    simp only [List.filter_append, List.append_assoc] at this
    exact List.append_cancel_right (List.append_cancel_left this)
end Go.Proofs.YtjbafggnbfknfaaGreatDoor
