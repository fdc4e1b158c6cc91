/- slices.symMergeCmpFunc over pairs: two sorted runs become one, the order within each name kept. -/
import Derived.Test.YtedakipjfpdajaaGreatDoorStG1
import Derived.Test.YtedakipjfpdajaaGreatDoorStG2
namespace Go.Proofs.YtedakipjfpdajaaGreatDoor
open Go.RowKit Go.Sort Go.Shelf

theorem symMerge_len (B g cap N : Nat) (hl : N < 4611686018427387904) (L : Nat) : ∀ (P A C S : List Pr) (a m b : Nat) (w : World), A.length + C.length ≤ L → 0 < A.length → 0 < C.length → OwnK encR 42 4 B w (some ⟨g, 0, none⟩) cap (P ++ A ++ C ++ S) → (P ++ A ++ C ++ S).length = N → P.length = a → a + A.length = m → m + C.length = b → Sd A → Sd C →
      Calls Tryz.prog 153 #[.slice (some ⟨g, 0, none⟩) N cap, .int .i64 a, .int .i64 m, .int .i64 b, .func (.func 66) #[] #[]] w fun e w' => e = .returned (.tuple #[]) ∧ ∃ D, Sd D ∧ Stb (A ++ C) D ∧ OwnK encR 42 4 B w' (some ⟨g, 0, none⟩) cap (P ++ D ++ S) ∧ Below B w w' := by
  induction L with
  | zero => intro P A C S a m b w hL h1 h2; omega
  | succ L ih =>
    intro P A C S a m b w hL h1 h2 ho hN ha hm hb hA hC
    by_cases e1 : A.length = 1
    · obtain ⟨x, rfl⟩ := List.length_eq_one_iff.1 e1
      exact symOne B g cap a m b N P x C S w ho hN ha (by simpa using hm) hb hC hl
    · by_cases e2 : C.length = 1
      · obtain ⟨y, rfl⟩ := List.length_eq_one_iff.1 e2
        exact symLast B g cap a m b N P A y S w ho hN ha hm (by simpa using hb) hA (by omega) hl
      · have ih' := fun (P' A' C' S' : List Pr) (a' m' b' : Nat) (w' : World) (h : A'.length + C'.length < A.length + C.length) => ih P' A' C' S' a' m' b' w' (by omega)
        by_cases hgt : (a + b) / 2 < m
        · exact symGen1 B g cap a m b N P A C S w ho hN ha hm hb hA hC (by omega) (by omega) hl hgt ih'
        · exact symGen2 B g cap a m b N P A C S w ho hN ha hm hb hA hC (by omega) (by omega) hl hgt ih'
theorem symMerge (B g cap a m b N : Nat) (P A C S : List Pr) (w : World) (hl : N < 4611686018427387904) (h1 : 0 < A.length) (h2 : 0 < C.length) (ho : OwnK encR 42 4 B w (some ⟨g, 0, none⟩) cap (P ++ A ++ C ++ S)) (hN : (P ++ A ++ C ++ S).length = N) (ha : P.length = a) (hm : a + A.length = m) (hb : m + C.length = b) (hA : Sd A) (hC : Sd C) :
    Calls Tryz.prog 153 #[.slice (some ⟨g, 0, none⟩) N cap, .int .i64 a, .int .i64 m, .int .i64 b, .func (.func 66) #[] #[]] w fun e w' => e = .returned (.tuple #[]) ∧ ∃ D, Sd D ∧ Stb (A ++ C) D ∧ OwnK encR 42 4 B w' (some ⟨g, 0, none⟩) cap (P ++ D ++ S) ∧ Below B w w' :=
  symMerge_len B g cap N hl _ P A C S a m b w (Nat.le_refl _) h1 h2 ho hN ha hm hb hA hC
end Go.Proofs.YtedakipjfpdajaaGreatDoor
namespace Go.Proofs.YtedakipjfpdajaaGreatDoor
open Go.RowKit Go.Sort Go.Shelf

theorem sd_nil : Sd [] := List.Pairwise.nil
/-- Runs of one length, each sorted; the last may be shorter. -/
inductive Blk (n : Nat) : List Pr → Prop
  | last (l : List Pr) : l.length ≤ n → Sd l → Blk n l
  | more (A R : List Pr) : A.length = n → Sd A → Blk n R → Blk n (A ++ R)
theorem Blk.head {n : Nat} {R : List Pr} (h : Blk n R) (hl : n ≤ R.length) : ∃ A S, R = A ++ S ∧ A.length = n ∧ Sd A ∧ Blk n S := by
  cases h with
  | last _ h1 h2 => exact ⟨R, [], by simp, by omega, h2, .last [] (by simp) sd_nil⟩
  | more A S h1 h2 h3 => exact ⟨A, S, rfl, h1, h2, h3⟩
theorem Blk.all {n : Nat} {R : List Pr} (h : Blk n R) (hl : R.length ≤ n) : Sd R := by
  cases h with
  | last _ _ h2 => exact h2
  | more A S h1 h2 h3 =>
    rw [List.length_append] at hl
    have : S = [] := List.length_eq_zero_iff.1 (by omega)
    subst this
    simpa using h2
/-- One run is sorted. -/
theorem insStep (B g cap a b N : Nat) (P M S : List Pr) (w : World) (h : OwnK encR 42 4 B w (some ⟨g, 0, none⟩) cap (P ++ M ++ S)) (hN : (P ++ M ++ S).length = N) (ha : P.length = a) (hb : a + M.length = b) (hl : N < 4611686018427387904) :
    Calls Tryz.prog 152 #[.slice (some ⟨g, 0, none⟩) N cap, .int .i64 a, .int .i64 b, .func (.func 66) #[] #[]] w fun e w' => e = .returned (.tuple #[]) ∧ ∃ M', Sd M' ∧ Stb M M' ∧ OwnK encR 42 4 B w' (some ⟨g, 0, none⟩) cap (P ++ M' ++ S) ∧ Below B w w' := by
  have hN' := hN
  simp only [List.length_append] at hN'
  have hc := insSort B g cap a b (P ++ M ++ S) w h (by omega) (by rw [hN]; omega) (by rw [hN]; exact hl)
  rw [hN] at hc
  refine hc.mono ?_
  rintro e w' ⟨he, d', o, s, t, r, bl⟩
  obtain ⟨M', rfl, m1, m2⟩ := seg_of ha (by rw [ha]; exact hb) s t r
  exact ⟨he, M', m1, m2, o, bl⟩
theorem stb_mid {d P A A' S : List Pr} (h : Stb d (P ++ A ++ S)) (h2 : Stb A A') : Stb d (P ++ A' ++ S) :=
  h.trans (((Stb.refl P).app h2).app (Stb.refl S))

set_option maxHeartbeats 4000000 in
set_option maxRecDepth 1000000 in
theorem stable (B g cap N : Nat) (d : List Pr) (w : World) (h : OwnK encR 42 4 B w (some ⟨g, 0, none⟩) cap d) (hN : d.length = N) (hl : N < 1152921504606846976) :
    Calls Tryz.prog 145 #[.slice (some ⟨g, 0, none⟩) N cap, .int .i64 N, .func (.func 66) #[] #[]] w fun e w' => e = .returned (.tuple #[]) ∧ ∃ D, Sd D ∧ Stb d D ∧ OwnK encR 42 4 B w' (some ⟨g, 0, none⟩) cap D ∧ Below B w w' := by
  have H0 := hide h
  have HN := hide hN
  clear h hN
  have hl2 : N < 4611686018427387904 := by omega
  go_enter Tryz.func145, Tryz.ntmps145
  go_wp2
  go_loopw [7, 8] (fun va vb wr => ∃ (a b : Nat) (D R : List Pr), va = .int .i64 a ∧ vb = .int .i64 b ∧ a ≤ N ∧ b = a + 20 ∧ Hid (D.length = a ∧ (D ++ R).length = N ∧ Stb d (D ++ R) ∧ ∀ T, Blk 20 T → Blk 20 (D ++ T)) ∧ Hid (OwnK encR 42 4 B wr (some ⟨g, 0, none⟩) cap (D ++ R)) ∧ Hid (Below B w wr)) (fun va _ _ => N - (intOf va).toNat)
  case atStart => exact ⟨0, 20, [], d, rfl, rfl, Nat.zero_le _, rfl, hide ⟨rfl, by simpa using unhide HN, by simpa using Stb.refl d, fun T h => h⟩, hide (by simpa using unhide H0), hide (Below.refl _ _)⟩
  case round =>
    obtain ⟨a, b, D, R, rfl, rfl, haN, hba, HS, HO, HB⟩ := hrel
    have HBA := hide hba
    by_cases hlt : b ≤ N
    · have hz : (b : Int) ≤ (N : Int) := by omega
      have x1 : IntKind.i64.wrap ((b : Int) + 20) = (b : Int) + 20 := by rw [IntKind.wrap_i64]; omega
      have hR : 20 ≤ R.length := by have h1 := (unhide HS).2.1; have h2 := (unhide HS).1; rw [List.length_append] at h1; omega
      obtain ⟨A, S, hRS, hA⟩ : ∃ A S, R = A ++ S ∧ A.length = 20 := ⟨R.take 20, R.drop 20, by simp, by simp; omega⟩
      have HLA := hide hA
      subst hRS
      have HC := hide (insStep B g cap a b N D A S wr (by simpa using unhide HO) (by simpa using (unhide HS).2.1) (unhide HS).1 (by omega) hl2)
      clear hR hba hA
      go_wp2_with (go_at_call 152; refine (unhide HC).mono ?_; rintro e wn ⟨rfl, A', s1, s2, ho, hbn⟩; have HA := hide (show Sd A' ∧ Stb A A' from ⟨s1, s2⟩); have HO2 := hide ho; have HB2 := hide ((unhide HB).trans hbn); clear ho hbn s1 s2)
      go_roundw
      case rel =>
        have h1 := unhide HA
        have h2 := unhide HS
        have h3 := h1.2.1
        have h4 := h2.2.1
        have hba := unhide HBA
        have hA := unhide HLA
        simp only [List.length_append] at h4
        refine ⟨b, b + 20, D ++ A', S, rfl, by first | rfl | go_num, hlt, rfl, hide ⟨by rw [List.length_append]; omega, by simp only [List.length_append]; omega, stb_mid (by simpa using h2.2.2.1) h1.2, fun T hT => by rw [List.append_assoc]; exact h2.2.2.2 _ (.more A' T (by omega) h1.1 hT)⟩, hide (by simpa using unhide HO2), HB2⟩
      case measure => have hba := unhide HBA; simp [intOf]; omega
    · have hz : ¬ (b : Int) ≤ (N : Int) := by omega
      have HC := hide (insStep B g cap a N N D R [] wr (by simpa using unhide HO) (by simpa using (unhide HS).2.1) (unhide HS).1 (by have h1 := (unhide HS).2.1; have h2 := (unhide HS).1; rw [List.length_append] at h1; omega) hl2)
      clear hba
      go_wp2_with (go_at_call 152; refine (unhide HC).mono ?_; rintro e w1 ⟨rfl, R', s1, s2, ho, hbn⟩; have HA := hide (show Sd R' ∧ Stb R R' from ⟨s1, s2⟩); have HO2 := hide ho; have HB2 := hide ((unhide HB).trans hbn); clear ho hbn s1 s2)
      go_loopw [6, 7, 8] (fun vs _ _ wr => ∃ (s : Nat) (D : List Pr), vs = .int .i64 s ∧ 0 < s ∧ s ≤ 2 * N + 20 ∧ Hid (D.length = N ∧ Stb d D ∧ Blk s D) ∧ Hid (OwnK encR 42 4 B wr (some ⟨g, 0, none⟩) cap D) ∧ Hid (Below B w wr)) (fun vs _ _ _ => N - (intOf vs).toNat)
      case atStart =>
        have h1 := unhide HA
        have h2 := unhide HS
        have h3 := h1.2.1
        have h4 := h2.2.1
        have hba := unhide HBA
        simp only [List.length_append] at h4
        exact ⟨20, D ++ R', rfl, by omega, by omega, hide ⟨by simp only [List.length_append]; omega, h2.2.2.1.trans ((Stb.refl D).app h1.2), h2.2.2.2 _ (.last R' (by omega) h1.1)⟩, hide (by simpa using unhide HO2), HB2⟩
      case round =>
        obtain ⟨s, E, rfl, hs, hs2, HE, HO3, HB3⟩ := hrel
        by_cases hsN : s < N
        · have hsz : (s : Int) < (N : Int) := by omega
          have y1 : IntKind.i64.wrap (2 * (s : Int)) = 2 * (s : Int) := by rw [IntKind.wrap_i64]; omega
          have y2 : IntKind.i64.wrap ((s : Int) * 2) = (s : Int) * 2 := by rw [IntKind.wrap_i64]; omega
          go_wp2
          go_loopw [7, 8] (fun va vb wr => ∃ (a b : Nat) (D R : List Pr), va = .int .i64 a ∧ vb = .int .i64 b ∧ a ≤ N ∧ b = a + 2 * s ∧ Hid (D.length = a ∧ (D ++ R).length = N ∧ Stb d (D ++ R) ∧ Blk s R ∧ ∀ T, Blk (2 * s) T → Blk (2 * s) (D ++ T)) ∧ Hid (OwnK encR 42 4 B wr (some ⟨g, 0, none⟩) cap (D ++ R)) ∧ Hid (Below B w wr)) (fun va _ _ => N - (intOf va).toNat)
          case atStart =>
            have h1 := unhide HE
            exact ⟨0, 2 * s, [], E, by first | rfl | go_num, by first | rfl | go_num, Nat.zero_le _, by omega, hide ⟨rfl, by simpa using h1.1, by simpa using h1.2.1, h1.2.2, fun T h => h⟩, hide (by simpa using unhide HO3), HB3⟩
          case round =>
            obtain ⟨a, b, F, R, rfl, rfl, haN, hba, HS, HO4, HB4⟩ := hrel
            have z1 : IntKind.i64.wrap ((a : Int) + (s : Int)) = (a : Int) + (s : Int) := by rw [IntKind.wrap_i64]; omega
            obtain ⟨m, hm⟩ : ∃ m, m = a + s := ⟨_, rfl⟩
            have z2 : (a : Int) + (s : Int) = (m : Int) := by omega
            have z3 : IntKind.i64.wrap (m : Int) = (m : Int) := by rw [IntKind.wrap_i64]; omega
            have HBA2 := hide hba
            have HM := hide hm
            have hlen : a + R.length = N := by have h1 := (unhide HS).2.1; have h2 := (unhide HS).1; rw [List.length_append] at h1; omega
            by_cases hlt : b ≤ N
            · have hz : (b : Int) ≤ (N : Int) := by omega
              have z4 : IntKind.i64.wrap ((b : Int) + 2 * (s : Int)) = (b : Int) + 2 * (s : Int) := by rw [IntKind.wrap_i64]; omega
              have z5 : IntKind.i64.wrap ((b : Int) + (s : Int) * 2) = (b : Int) + (s : Int) * 2 := by rw [IntKind.wrap_i64]; omega
              obtain ⟨A, R1, hR1, hA1, hA2, hbk⟩ := (unhide HS).2.2.2.1.head (by omega)
              subst hR1
              rw [List.length_append] at hlen
              obtain ⟨C, S, hRS, hC1, hC2, hbs⟩ := hbk.head (by omega)
              subst hRS
              have HC := hide (symMerge B g cap a m b N F A C S wr hl2 (by omega) (by omega) (by simpa using unhide HO4) (by simpa using (unhide HS).2.1) (unhide HS).1 (by omega) (by omega) hA2 hC2)
              have HQ := hide (show A.length = s ∧ C.length = s ∧ Blk s S from ⟨hA1, hC1, hbs⟩)
              clear hbk hA1 hA2 hC1 hC2 hbs hlen hba hm
              go_wp2_with (go_at_call 153; refine (unhide HC).mono ?_; rintro e wn ⟨rfl, G, s1, s2, ho, hbn⟩; have HA := hide (show Sd G ∧ Stb (A ++ C) G from ⟨s1, s2⟩); have HO5 := hide ho; have HB5 := hide ((unhide HB4).trans hbn); clear ho hbn s1 s2)
              go_roundw
              case rel =>
                have h1 := unhide HA
                have h2 := unhide HS
                have h3 := h1.2.1
                have h4 := h2.2.1
                have h5 := unhide HQ
                have hba := unhide HBA2
                have hm := unhide HM
                simp only [List.length_append] at h3 h4
                refine ⟨b, b + 2 * s, F ++ G, S, rfl, by first | rfl | go_num, hlt, rfl, hide ⟨by rw [List.length_append]; omega, by simp only [List.length_append]; omega, stb_mid (by simpa using h2.2.2.1) h1.2, h5.2.2, fun T hT => by rw [List.append_assoc]; exact h2.2.2.2.2 _ (.more G T (by omega) h1.1 hT)⟩, hide (by simpa using unhide HO5), HB5⟩
              case measure => have hba := unhide HBA2; simp [intOf]; omega
            · have hz : ¬ (b : Int) ≤ (N : Int) := by omega
              by_cases hmN : m < N
              · have hmz : (m : Int) < (N : Int) := by omega
                obtain ⟨A, C, hR1, hA1, hA2, hbk⟩ := (unhide HS).2.2.2.1.head (by omega)
                subst hR1
                rw [List.length_append] at hlen
                have hC2 := hbk.all (by omega)
                have HC := hide (symMerge B g cap a m N N F A C [] wr hl2 (by omega) (by omega) (by simpa using unhide HO4) (by simpa using (unhide HS).2.1) (unhide HS).1 (by omega) (by omega) hA2 hC2)
                have HLN := hide hlen
                clear hbk hA1 hA2 hC2 hlen hba hm
                go_wp2_with (go_at_call 153; refine (unhide HC).mono ?_; rintro e wn ⟨rfl, G, s1, s2, ho, hbn⟩; have HA := hide (show Sd G ∧ Stb (A ++ C) G from ⟨s1, s2⟩); have HO5 := hide ho; have HB5 := hide ((unhide HB4).trans hbn); clear ho hbn s1 s2)
                go_roundw
                case rel =>
                  have h1 := unhide HA
                  have h2 := unhide HS
                  have h3 := h1.2.1
                  have h4 := h2.2.1
                  have hba := unhide HBA2
                  simp only [List.length_append] at h3 h4
                  refine ⟨2 * s, F ++ G, by first | rfl | go_num | (congr 1; omega), by omega, by omega, hide ⟨by rw [List.length_append]; omega, h2.2.2.1.trans ((Stb.refl F).app h1.2), h2.2.2.2.2 _ (.last G (by omega) h1.1)⟩, hide (by simpa using unhide HO5), HB5⟩
                case measure => simp [intOf]; omega
              · have hmz : ¬ (m : Int) < (N : Int) := by omega
                have HLN := hide (show a + R.length = N ∧ ¬ m < N from ⟨hlen, hmN⟩)
                clear hlen hba hm hmN
                go_wp2
                go_roundw
                case rel =>
                  have h2 := unhide HS
                  have h6 := unhide HLN
                  have hba := unhide HBA2
                  have hm := unhide HM
                  refine ⟨2 * s, F ++ R, by first | rfl | go_num | (congr 1; omega), by omega, by omega, hide ⟨h2.2.1, h2.2.2.1, h2.2.2.2.2 _ (.last R (by omega) (h2.2.2.2.1.all (by omega)))⟩, HO4, HB4⟩
                case measure => simp [intOf]; omega
        · have hsz : ¬ (s : Int) < (N : Int) := by omega
          go_wp2
          go_end0
          have h1 := unhide HE
          exact ⟨rfl, E, h1.2.2.all (by omega), h1.2.1, unhide HO3, unhide HB3⟩
end Go.Proofs.YtedakipjfpdajaaGreatDoor
