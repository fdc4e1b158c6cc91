/- The reference's Of: a predicate's keys. -/
import Derived.Test.YtedakipjfpdajaaGreatDoorRfN
import Derived.Test.YtedakipjfpdajaaGreatDoorOfB
import Derived.Test.YtedakipjfpdajaaGreatDoorSpanRf
import Derived.Test.YtedakipjfpdajaaGreatDoorZai
namespace Go.Proofs.YtedakipjfpdajaaGreatDoor
open Go.RowKit Go.Sort Go.Shelf

theorem ris_congr {l m : List Ky} (h : ∀ x, x ∈ l ↔ x ∈ m) : ris l = ris m := ris_of (str_ris m) fun x => by rw [mem_ris]; exact (h x).symm
theorem fitK_of {attr : ByteArray} (ha : attr.size ≤ maxLen) {l : List Ky} (h : ∀ x ∈ l, x.attr = attr ∧ x.word.size ≤ maxLen) : FitK l := fun x hx => ⟨by rw [(h x hx).1]; exact ha, (h x hx).2⟩
theorem mx0 : (⟨#[]⟩ : ByteArray).size ≤ maxLen := by unfold maxLen; decide
set_option maxRecDepth 100000 in
set_option maxHeartbeats 1000000 in
theorem rof_no (kind : Int) (at0 : ByteArray) (qi : Option Addr) (ni ci : Nat) (qw : Option Addr) (nw cw : Nat) (lo hi : Int) (w : World) (hN : ∀ W, Below w.heap.size w W → Calls Tryz.prog 34 #[.agg #[.int .i64 kind, .string at0, .slice qi ni ci, .slice qw nw cw, .int .i64 lo, .int .i64 hi]] W fun e w' => e = .returned (.tuple #[.agg #[.int .i64 0, .string ⟨#[]⟩, .slice none 0 0, .slice none 0 0, .int .i64 0, .int .i64 0], .bool false]) ∧ Below W.heap.size W w') :
    Calls Tryz.prog 13 #[.agg #[.int .i64 kind, .string at0, .slice qi ni ci, .slice qw nw cw, .int .i64 lo, .int .i64 hi]] w fun e w' => (∃ q c, e = .returned (.slice q (ris []).length c) ∧ SlOf encK 5 w' q c (ris [])) ∧ Below w.heap.size w w' := by
  obtain ⟨X, HX⟩ : ∃ X, w.alloc (.cells #[.int .i64 kind, .string at0, .slice qi ni ci, .slice qw nw cw, .int .i64 lo, .int .i64 hi] 25) = X := ⟨_, rfl⟩
  have bX : Below w.heap.size w X := by rw [← HX]; exact (Below.refl _ _).alloc (Nat.le_refl _) _
  have x8 : X.heap[w.heap.size]? = some (.cells #[.int .i64 kind, .string at0, .slice qi ni ci, .slice qw nw cw, .int .i64 lo, .int .i64 hi] 25 (0, 0)) := by rw [← HX]; exact World.alloc_heap_new _ _
  obtain ⟨x0, x1, x2, x3, x4, x5⟩ := of6R x8
  have BX := hide bX
  have hNX := hN X bX
  clear bX x8 hN
  go_enter Tryz.func13, Tryz.ntmps13
  go_wp2_with (go_at_call 34; refine hNX.mono ?_; rintro e w1 ⟨rfl, b1⟩; have B1 := hide b1; clear b1)
  go_ret
  exact ⟨⟨none, 0, rfl, SlOf.none _⟩, (below_sub (unhide BX) (unhide B1)).alloc (Nat.le_trans (unhide BX).size (unhide B1).size) _⟩
set_option maxRecDepth 100000 in
set_option maxHeartbeats 4000000 in
theorem rof_set (kind : Int) (at0 : ByteArray) (qi : Option Addr) (ni ci : Nat) (qw : Option Addr) (nw cw : Nat) (lo hi : Int) (w : World) (k : Int) (attr : ByteArray) (lo1 hi1 : Int) (ints : List Int) (words : List ByteArray) (k3 : k ≠ 3) (k4 : k ≠ 4) (h1 : ints.length ≤ 64) (h2 : words.length ≤ 64) (ha : attr.size ≤ maxLen) (hw : ∀ x ∈ words, x.size ≤ maxLen) (hN : ∀ W, Below w.heap.size w W → Calls Tryz.prog 34 #[.agg #[.int .i64 kind, .string at0, .slice qi ni ci, .slice qw nw cw, .int .i64 lo, .int .i64 hi]] W fun e w' => (∃ (L1 : List Int) (L2 : List ByteArray) (q1 : Option Addr) (c1 : Nat) (q2 : Option Addr) (c2 : Nat), e = .returned (.tuple #[.agg #[.int .i64 k, .string attr, .slice q1 L1.length c1, .slice q2 L2.length c2, .int .i64 lo1, .int .i64 hi1], .bool true]) ∧ SlOf encI 1 w' q1 c1 L1 ∧ SlOf encS 1 w' q2 c2 L2 ∧ Sm L1 ints ∧ Sm L2 words) ∧ Below W.heap.size W w') :
    Calls Tryz.prog 13 #[.agg #[.int .i64 kind, .string at0, .slice qi ni ci, .slice qw nw cw, .int .i64 lo, .int .i64 hi]] w fun e w' => (∃ q c, e = .returned (.slice q (ris (ints.map (kInt attr) ++ words.map (kWord attr))).length c) ∧ SlOf encK 5 w' q c (ris (ints.map (kInt attr) ++ words.map (kWord attr)))) ∧ Below w.heap.size w w' := by
  obtain ⟨R, hR⟩ : ∃ R, ris (ints.map (kInt attr) ++ words.map (kWord attr)) = R := ⟨_, rfl⟩
  rw [hR]
  have HR := hide hR
  clear hR
  have g3 : (k == 3) = false := by simpa using k3
  have g4 : (k == 4) = false := by simpa using k4
  obtain ⟨X, HX⟩ : ∃ X, w.alloc (.cells #[.int .i64 kind, .string at0, .slice qi ni ci, .slice qw nw cw, .int .i64 lo, .int .i64 hi] 25) = X := ⟨_, rfl⟩
  have bX : Below w.heap.size w X := by rw [← HX]; exact (Below.refl _ _).alloc (Nat.le_refl _) _
  have x8 : X.heap[w.heap.size]? = some (.cells #[.int .i64 kind, .string at0, .slice qi ni ci, .slice qw nw cw, .int .i64 lo, .int .i64 hi] 25 (0, 0)) := by rw [← HX]; exact World.alloc_heap_new _ _
  obtain ⟨x0, x1, x2, x3, x4, x5⟩ := of6R x8
  have BX := hide bX
  have hNX := hN X bX
  clear bX x8 hN
  go_enter Tryz.func13, Tryz.ntmps13
  go_upto_region 6 with (go_at_call 34; refine hNX.mono ?_; rintro e w1 ⟨⟨L1, L2, q1, c1, q2, c2, rfl, s1, s2, m1, m2⟩, b1⟩; have S1 := hide s1; have S2 := hide s2; have M1 := hide m1; have M2 := hide m2; have B1 := hide b1; clear b1 s1 s2 m1 m2)
  obtain ⟨Y, HY⟩ : ∃ Y, w1.alloc (.cells #[.int .i64 k, .string attr, .slice q1 L1.length c1, .slice q2 L2.length c2, .int .i64 lo1, .int .i64 hi1] 25) = Y := ⟨_, rfl⟩
  rw [HY]
  have y8 : Y.heap[w1.heap.size]? = some (.cells #[.int .i64 k, .string attr, .slice q1 L1.length c1, .slice q2 L2.length c2, .int .i64 lo1, .int .i64 hi1] 25 (0, 0)) := by rw [← HY]; exact World.alloc_heap_new _ _
  have bY : Below w1.heap.size w1 Y := by rw [← HY]; exact (Below.refl _ _).alloc (Nat.le_refl _) _
  have BYw := hide (below_sub (unhide BX) (below_sub (unhide B1) bY))
  have lY : w1.heap.size < Y.heap.size := (Array.getElem?_eq_some_iff.1 y8).1
  have T1 := hide ((unhide S1).below bY)
  have T2 := hide ((unhide S2).below bY)
  have N := hide (of6R y8)
  obtain ⟨n0, n1, n2, n3, n4, n5⟩ := of6R y8
  have u1 : L1.length ≤ 64 := Nat.le_trans (unhide M1).2 h1
  have u2 : L2.length ≤ 64 := Nat.le_trans (unhide M2).2 h2
  clear y8 bY HY
  have HSort := hide (fun (W : World) (q : Option Addr) (c : Nat) (h : SlOf encK 5 W q c (L1.map (kInt attr) ++ L2.map (kWord attr))) => refSort (L1.map (kInt attr) ++ L2.map (kWord attr)) (by simp; omega) (fitK_of ha (by
    intro x hx
    rcases List.mem_append.1 hx with hx | hx
    · obtain ⟨y, _, rfl⟩ := List.mem_map.1 hx; exact ⟨rfl, mx0⟩
    · obtain ⟨y, hy, rfl⟩ := List.mem_map.1 hx; exact ⟨rfl, hw y (((unhide M2).1 y).1 hy)⟩)) q c W h)
  have HE := hide (show ris (L1.map (kInt attr) ++ L2.map (kWord attr)) = R by
    rw [← unhide HR]
    refine ris_congr fun x => ?_
    rw [List.mem_append, List.mem_append, List.mem_map, List.mem_map, List.mem_map, List.mem_map]
    constructor
    · rintro (⟨y, hy, rfl⟩ | ⟨y, hy, rfl⟩)
      · exact Or.inl ⟨y, ((unhide M1).1 y).1 hy, rfl⟩
      · exact Or.inr ⟨y, ((unhide M2).1 y).1 hy, rfl⟩
    · rintro (⟨y, hy, rfl⟩ | ⟨y, hy, rfl⟩)
      · exact Or.inl ⟨y, ((unhide M1).1 y).2 hy, rfl⟩
      · exact Or.inr ⟨y, ((unhide M2).1 y).2 hy, rfl⟩)
  clear hw
  go_wp2
  go_loopw [5, 8] (fun ov iv wr => ∃ (j : Nat) (q : Option Addr) (c : Nat), j ≤ L1.length ∧ ov = .slice q j c ∧ iv = .int .i64 j ∧ Hid (OwnK encK 46 5 Y.heap.size wr q c ((L1.take j).map (kInt attr))) ∧ Hid (Below Y.heap.size Y wr)) (fun _ iv _ => L1.length - (intOf iv).toNat)
  case atStart => exact ⟨0, none, 0, Nat.zero_le _, rfl, rfl, hide (by simpa using OwnK.nil _ _), hide (Below.refl _ _)⟩
  case round =>
    obtain ⟨j, q, c, hj, rfl, rfl, HO, HB⟩ := hrel
    have m1 := ((unhide HB).cell (p := ⟨w1.heap.size, 1, none⟩) lY).trans (unhide N).2.1
    have m2 := ((unhide HB).cell (p := ⟨w1.heap.size, 2, none⟩) lY).trans (unhide N).2.2.1
    have m3 := ((unhide HB).cell (p := ⟨w1.heap.size, 3, none⟩) lY).trans (unhide N).2.2.2.1
    clear n0 n1 n2 n3 n4 n5
    by_cases hlt : j < L1.length
    · obtain ⟨x, hx, _⟩ := get_at hlt
      obtain ⟨bs, os, hqs, hbs, r0⟩ := intsAt (unhide T1) hx
      subst hqs
      have j0 : (0 : Int) ≤ (j : Int) := by omega
      have j1 : (j : Int) < (L1.length : Int) := by omega
      have HX2 := hide (show (L1.take (j + 1)).map (kInt attr) = (L1.take j).map (kInt attr) ++ [kInt attr x] by rw [List.take_add_one, hx]; simp)
      clear hx
      have HCY : ∀ W', Below Y.heap.size Y W' → (W'.cell? ⟨w1.heap.size, 1, none⟩ = some (.string attr) ∧ W'.cell? ⟨w1.heap.size, 2, none⟩ = some (.slice (some ⟨bs, os, none⟩) L1.length c1) ∧ W'.cell? ⟨bs, os + j, none⟩ = some (.int .i64 x)) := fun W' hW => ⟨((hW.cell (p := ⟨w1.heap.size, 1, none⟩) lY).trans (unhide N).2.1), ((hW.cell (p := ⟨w1.heap.size, 2, none⟩) lY).trans (unhide N).2.2.1), (hW.cell (p := ⟨bs, os + j, none⟩) hbs).trans r0⟩
      have hs6 : Y.heap.size ≤ wr.heap.size := (unhide HB).size
      go_wp2
      go_region_held3 (fun W' => (W'.cell? ⟨w1.heap.size, 1, none⟩ = some (.string attr) ∧ W'.cell? ⟨w1.heap.size, 2, none⟩ = some (.slice (some ⟨bs, os, none⟩) L1.length c1) ∧ W'.cell? ⟨bs, os + j, none⟩ = some (.int .i64 x))) (first | exact HCY _ (unhide HB5) | exact HCY _ (unhide HB5).drew | exact HCY _ (unhide HB5).drew.drew | exact HCY _ (unhide HB) | exact HCY _ (unhide HB).drew | exact HCY _ (unhide HB).drew.drew | exact HCY _ ((unhide HB).alloc hs6 _) | exact HCY _ ((unhide HB).drew.alloc hs6 _) | exact HCY _ ((unhide HB).alloc hs6 _).drew | exact HCY _ ((unhide HB).drew.drew.alloc hs6 _) | exact HCY _ ((unhide HB).drew.alloc hs6 _).drew | go_keep) (first
        | (refine step_app rowP (by rfl) _ _ (by rfl) Y.heap.size q c ((L1.take j).map (kInt attr)) (some ⟨wr.heap.size, 0, none⟩) 1 [kInt attr x] j 1 (j + 1) (by simp; omega) rfl rfl (by rfl) (by rfl) ((unhide HO).below (by first | exact (Below.refl _ _).alloc (Nat.le_refl _) _ | exact (Below.refl _ _).drew.alloc (Nat.le_refl _) _ | exact (Below.refl _ _).drew.drew.alloc (Nat.le_refl _) _)) (srcKyA _ _) (by unfold maxLen; omega) (by omega) (by first | omega | (simp; omega) | simp) ?_; intro q5 c5 w5 ho5 hb5 _ hg5; have HO5 := hide ho5; have HB5 := hide (show Below Y.heap.size Y w5 by first | exact ((unhide HB).alloc hs6 _).trans hb5 | exact ((unhide HB).drew.alloc hs6 _).trans hb5 | exact ((unhide HB).drew.drew.alloc hs6 _).trans hb5); clear ho5 hb5))
      all_goals
        go_wp2
        go_roundw
        case rel => exact ⟨j + 1, q5, c5, by omega, rfl, by go_num, hide (by rw [unhide HX2]; exact unhide HO5), HB5⟩
        case measure => simp [intOf]; omega

    · obtain rfl : j = L1.length := by omega
      have j1 : ¬ (L1.length : Int) < (L1.length : Int) := by omega
      have HO1 := hide (show OwnK encK 46 5 Y.heap.size wr q c (L1.map (kInt attr)) by have := unhide HO; rwa [List.take_length] at this)
      have HBa := hide (unhide HB)
      clear HO HB
      go_wp2
      go_loopw [5, 9] (fun ov iv wr => ∃ (j : Nat) (q : Option Addr) (c : Nat), j ≤ L2.length ∧ ov = .slice q (L1.length + j) c ∧ iv = .int .i64 j ∧ Hid (OwnK encK 46 5 Y.heap.size wr q c (L1.map (kInt attr) ++ (L2.take j).map (kWord attr))) ∧ Hid (Below Y.heap.size Y wr)) (fun _ iv _ => L2.length - (intOf iv).toNat)
      case atStart => exact ⟨0, q, c, Nat.zero_le _, rfl, rfl, hide (by simpa using unhide HO1), HBa⟩
      case round =>
        obtain ⟨j, q, c, hj, rfl, rfl, HO, HB⟩ := hrel
        clear m1 m2 m3
        have m1 := ((unhide HB).cell (p := ⟨w1.heap.size, 1, none⟩) lY).trans (unhide N).2.1
        have m3 := ((unhide HB).cell (p := ⟨w1.heap.size, 3, none⟩) lY).trans (unhide N).2.2.2.1
        by_cases hlt : j < L2.length
        · obtain ⟨x, hx, _⟩ := get_at hlt
          obtain ⟨bs, os, hqs, hbs, r0⟩ := wordsAt (unhide T2) hx
          subst hqs
          have j0 : (0 : Int) ≤ (j : Int) := by omega
          have j1 : (j : Int) < (L2.length : Int) := by omega
          have HX2 := hide (show L1.map (kInt attr) ++ (L2.take (j + 1)).map (kWord attr) = (L1.map (kInt attr) ++ (L2.take j).map (kWord attr)) ++ [kWord attr x] by rw [List.take_add_one, hx]; simp)
          clear hx
          have HCY : ∀ W', Below Y.heap.size Y W' → (W'.cell? ⟨w1.heap.size, 1, none⟩ = some (.string attr) ∧ W'.cell? ⟨w1.heap.size, 3, none⟩ = some (.slice (some ⟨bs, os, none⟩) L2.length c2) ∧ W'.cell? ⟨bs, os + j, none⟩ = some (.string x)) := fun W' hW => ⟨((hW.cell (p := ⟨w1.heap.size, 1, none⟩) lY).trans (unhide N).2.1), ((hW.cell (p := ⟨w1.heap.size, 3, none⟩) lY).trans (unhide N).2.2.2.1), (hW.cell (p := ⟨bs, os + j, none⟩) hbs).trans r0⟩
          have hs6 : Y.heap.size ≤ wr.heap.size := (unhide HB).size
          go_wp2
          go_region_held3 (fun W' => (W'.cell? ⟨w1.heap.size, 1, none⟩ = some (.string attr) ∧ W'.cell? ⟨w1.heap.size, 3, none⟩ = some (.slice (some ⟨bs, os, none⟩) L2.length c2) ∧ W'.cell? ⟨bs, os + j, none⟩ = some (.string x))) (first | exact HCY _ (unhide HB5) | exact HCY _ (unhide HB5).drew | exact HCY _ (unhide HB5).drew.drew | exact HCY _ (unhide HB) | exact HCY _ (unhide HB).drew | exact HCY _ (unhide HB).drew.drew | exact HCY _ ((unhide HB).alloc hs6 _) | exact HCY _ ((unhide HB).drew.alloc hs6 _) | exact HCY _ ((unhide HB).alloc hs6 _).drew | exact HCY _ ((unhide HB).drew.drew.alloc hs6 _) | exact HCY _ ((unhide HB).drew.alloc hs6 _).drew | go_keep) (first
            | (refine step_app rowP (by rfl) _ _ (by rfl) Y.heap.size q c (L1.map (kInt attr) ++ (L2.take j).map (kWord attr)) (some ⟨wr.heap.size, 0, none⟩) 1 [kWord attr x] (L1.length + j) 1 ((L1.length + j) + 1) (by simp; omega) rfl rfl (by rfl) (by rfl) ((unhide HO).below (by first | exact (Below.refl _ _).alloc (Nat.le_refl _) _ | exact (Below.refl _ _).drew.alloc (Nat.le_refl _) _ | exact (Below.refl _ _).drew.drew.alloc (Nat.le_refl _) _)) (srcKyA _ _) (by unfold maxLen; omega) (by omega) (by first | omega | (simp; omega) | simp) ?_; intro q5 c5 w5 ho5 hb5 _ hg5; have HO5 := hide ho5; have HB5 := hide (show Below Y.heap.size Y w5 by first | exact ((unhide HB).alloc hs6 _).trans hb5 | exact ((unhide HB).drew.alloc hs6 _).trans hb5 | exact ((unhide HB).drew.drew.alloc hs6 _).trans hb5); clear ho5 hb5))
          all_goals
            go_wp2
            go_roundw
            case rel => exact ⟨j + 1, q5, c5, by omega, by rw [Nat.add_assoc], by go_num, hide (by rw [unhide HX2]; exact unhide HO5), HB5⟩
            case measure => simp [intOf]; omega

        · obtain rfl : j = L2.length := by omega
          have j1 : ¬ (L2.length : Int) < (L2.length : Int) := by omega
          have ho := unhide HO
          rw [List.take_length] at ho
          have hS := unhide HSort wr q c ho.ls
          rw [show (L1.map (kInt attr) ++ L2.map (kWord attr)).length = L1.length + L2.length by simp, unhide HE] at hS
          clear ho
          go_wp2_with (go_at_call 36; refine hS.mono ?_; rintro e w9 ⟨⟨q9, c9, rfl, o9⟩, b9⟩; have O9 := hide o9.ls; have B9 := hide b9; clear o9 b9)
          go_ret
          exact ⟨⟨q9, c9, rfl, unhide O9⟩, below_sub (below_sub (unhide BYw) (unhide HB)) (unhide B9)⟩
set_option maxRecDepth 100000 in
set_option maxHeartbeats 4000000 in
theorem rof_span (kind : Int) (at0 : ByteArray) (qi : Option Addr) (ni ci : Nat) (qw : Option Addr) (nw cw : Nat) (lo hi : Int) (w : World) (attr : ByteArray) (lo1 hi1 : Int) (ints : List Int) (words : List ByteArray) (h1 : ints.length ≤ 64) (h2 : words.length ≤ 64) (ha : attr.size ≤ maxLen) (hN : ∀ W, Below w.heap.size w W → Calls Tryz.prog 34 #[.agg #[.int .i64 kind, .string at0, .slice qi ni ci, .slice qw nw cw, .int .i64 lo, .int .i64 hi]] W fun e w' => (∃ (L1 : List Int) (L2 : List ByteArray) (q1 : Option Addr) (c1 : Nat) (q2 : Option Addr) (c2 : Nat), e = .returned (.tuple #[.agg #[.int .i64 3, .string attr, .slice q1 L1.length c1, .slice q2 L2.length c2, .int .i64 lo1, .int .i64 hi1], .bool true]) ∧ SlOf encI 1 w' q1 c1 L1 ∧ SlOf encS 1 w' q2 c2 L2 ∧ Sm L1 ints ∧ Sm L2 words) ∧ Below W.heap.size W w') :
    Calls Tryz.prog 13 #[.agg #[.int .i64 kind, .string at0, .slice qi ni ci, .slice qw nw cw, .int .i64 lo, .int .i64 hi]] w fun e w' => (∃ q c, e = .returned (.slice q (ris ((coverZ lo1 hi1).map (kSpan attr))).length c) ∧ SlOf encK 5 w' q c (ris ((coverZ lo1 hi1).map (kSpan attr)))) ∧ Below w.heap.size w w' := by
  obtain ⟨C, hC⟩ : ∃ C, coverZ lo1 hi1 = C := ⟨_, rfl⟩
  have hCl : C.length ≤ 62 := by rw [← hC]; exact (coverZ_facts lo1 hi1).2
  rw [hC]
  have hCv := fun (W : World) => rcover_any lo1 hi1 W
  rw [hC] at hCv
  clear hC
  obtain ⟨X, HX⟩ : ∃ X, w.alloc (.cells #[.int .i64 kind, .string at0, .slice qi ni ci, .slice qw nw cw, .int .i64 lo, .int .i64 hi] 25) = X := ⟨_, rfl⟩
  have bX : Below w.heap.size w X := by rw [← HX]; exact (Below.refl _ _).alloc (Nat.le_refl _) _
  have x8 : X.heap[w.heap.size]? = some (.cells #[.int .i64 kind, .string at0, .slice qi ni ci, .slice qw nw cw, .int .i64 lo, .int .i64 hi] 25 (0, 0)) := by rw [← HX]; exact World.alloc_heap_new _ _
  obtain ⟨x0, x1, x2, x3, x4, x5⟩ := of6R x8
  have BX := hide bX
  have hNX := hN X bX
  clear bX x8 hN
  go_enter Tryz.func13, Tryz.ntmps13
  go_upto_region 15 with (go_at_call 34; refine hNX.mono ?_; rintro e w1 ⟨⟨L1, L2, q1, c1, q2, c2, rfl, s1, s2, m1, m2⟩, b1⟩; have S1 := hide s1; have S2 := hide s2; have M1 := hide m1; have M2 := hide m2; have B1 := hide b1; clear b1 s1 s2 m1 m2)
  obtain ⟨Y, HY⟩ : ∃ Y, w1.alloc (.cells #[.int .i64 3, .string attr, .slice q1 L1.length c1, .slice q2 L2.length c2, .int .i64 lo1, .int .i64 hi1] 25) = Y := ⟨_, rfl⟩
  rw [HY]
  have y8 : Y.heap[w1.heap.size]? = some (.cells #[.int .i64 3, .string attr, .slice q1 L1.length c1, .slice q2 L2.length c2, .int .i64 lo1, .int .i64 hi1] 25 (0, 0)) := by rw [← HY]; exact World.alloc_heap_new _ _
  have bY : Below w1.heap.size w1 Y := by rw [← HY]; exact (Below.refl _ _).alloc (Nat.le_refl _) _
  have BYw := hide (below_sub (unhide BX) (below_sub (unhide B1) bY))
  have lY : w1.heap.size < Y.heap.size := (Array.getElem?_eq_some_iff.1 y8).1
  have T1 := hide ((unhide S1).below bY)
  have T2 := hide ((unhide S2).below bY)
  have N := hide (of6R y8)
  obtain ⟨n0, n1, n2, n3, n4, n5⟩ := of6R y8
  have u1 : L1.length ≤ 64 := Nat.le_trans (unhide M1).2 h1
  have u2 : L2.length ≤ 64 := Nat.le_trans (unhide M2).2 h2
  clear y8 bY HY
  have HSort := hide (fun (W : World) (q : Option Addr) (c : Nat) (h : SlOf encK 5 W q c (C.map (kSpan attr))) => refSort (C.map (kSpan attr)) (by simp; omega) (fitK_of ha (by
    intro x hx
    obtain ⟨y, _, rfl⟩ := List.mem_map.1 hx; exact ⟨rfl, mx0⟩)) q c W h)
  go_wp2_with (go_at_call 35; refine (hCv _).mono ?_; rintro e w6 ⟨q6, c6, rfl, o6, b6⟩; have T6 := hide o6.ls; have B6 := hide b6; clear o6 b6)
  clear n0 n1 n2 n3 n4 n5
  go_loopw [5, 7] (fun ov iv wr => ∃ (j : Nat) (q : Option Addr) (c : Nat), j ≤ C.length ∧ ov = .slice q j c ∧ iv = .int .i64 j ∧ Hid (OwnK encK 46 5 w6.heap.size wr q c ((C.take j).map (kSpan attr))) ∧ Hid (Below w6.heap.size w6 wr)) (fun _ iv _ => C.length - (intOf iv).toNat)
  case atStart => exact ⟨0, none, 0, Nat.zero_le _, rfl, rfl, hide (by simpa using OwnK.nil _ _), hide (Below.refl _ _)⟩
  case round =>
    obtain ⟨j, q, c, hj, rfl, rfl, HO, HB⟩ := hrel
    by_cases hlt : j < C.length
    · obtain ⟨x, hx, _⟩ := get_at hlt
      obtain ⟨bs, os, hqs, hbs, r0, r1⟩ := spAt (unhide T6) hx
      subst hqs
      have j0 : (0 : Int) ≤ (j : Int) := by omega
      have j1 : (j : Int) < (C.length : Int) := by omega
      have HX2 := hide (show (C.take (j + 1)).map (kSpan attr) = (C.take j).map (kSpan attr) ++ [kSpan attr x] by rw [List.take_add_one, hx]; simp)
      clear hx
      have HCY : ∀ W', Below w6.heap.size w6 W' → (W'.cell? ⟨w1.heap.size, 1, none⟩ = some (.string attr) ∧ W'.cell? ⟨bs, os + j * 2, none⟩ = some (.int .i64 x.1) ∧ W'.cell? ⟨bs, os + j * 2 + 1, none⟩ = some (.int .i64 x.2)) := fun W' hW => ⟨((hW.cell (p := ⟨w1.heap.size, 1, none⟩) (Nat.lt_of_lt_of_le lY (unhide B6).size)).trans (((unhide B6).cell (p := ⟨w1.heap.size, 1, none⟩) lY).trans (unhide N).2.1)), (hW.cell (p := ⟨bs, os + j * 2, none⟩) hbs).trans r0, (hW.cell (p := ⟨bs, os + j * 2 + 1, none⟩) hbs).trans r1⟩
      have hs6 : w6.heap.size ≤ wr.heap.size := (unhide HB).size
      go_wp2
      go_region_held3 (fun W' => (W'.cell? ⟨w1.heap.size, 1, none⟩ = some (.string attr) ∧ W'.cell? ⟨bs, os + j * 2, none⟩ = some (.int .i64 x.1) ∧ W'.cell? ⟨bs, os + j * 2 + 1, none⟩ = some (.int .i64 x.2))) (first | exact HCY _ (unhide HB5) | exact HCY _ (unhide HB5).drew | exact HCY _ (unhide HB5).drew.drew | exact HCY _ (unhide HB) | exact HCY _ (unhide HB).drew | exact HCY _ (unhide HB).drew.drew | exact HCY _ ((unhide HB).alloc hs6 _) | exact HCY _ ((unhide HB).drew.alloc hs6 _) | exact HCY _ ((unhide HB).alloc hs6 _).drew | exact HCY _ ((unhide HB).drew.drew.alloc hs6 _) | exact HCY _ ((unhide HB).drew.alloc hs6 _).drew | go_keep) (first
        | (refine step_app rowP (by rfl) _ _ (by rfl) w6.heap.size q c ((C.take j).map (kSpan attr)) (some ⟨wr.heap.size, 0, none⟩) 1 [kSpan attr x] j 1 (j + 1) (by simp; omega) rfl rfl (by rfl) (by rfl) ((unhide HO).below (by first | exact (Below.refl _ _).alloc (Nat.le_refl _) _ | exact (Below.refl _ _).drew.alloc (Nat.le_refl _) _ | exact (Below.refl _ _).drew.drew.alloc (Nat.le_refl _) _)) (srcKyA _ _) (by unfold maxLen; omega) (by omega) (by first | omega | (simp; omega) | simp) ?_; intro q5 c5 w5 ho5 hb5 _ hg5; have HO5 := hide ho5; have HB5 := hide (show Below w6.heap.size w6 w5 by first | exact ((unhide HB).alloc hs6 _).trans hb5 | exact ((unhide HB).drew.alloc hs6 _).trans hb5 | exact ((unhide HB).drew.drew.alloc hs6 _).trans hb5); clear ho5 hb5))
      all_goals
        go_wp2
        go_roundw
        case rel => exact ⟨j + 1, q5, c5, by omega, rfl, by go_num, hide (by rw [unhide HX2]; exact unhide HO5), HB5⟩
        case measure => simp [intOf]; omega

    · obtain rfl : j = C.length := by omega
      have j1 : ¬ (C.length : Int) < (C.length : Int) := by omega
      have ho := unhide HO
      rw [List.take_length] at ho
      have hS := unhide HSort wr q c ho.ls
      rw [List.length_map] at hS
      clear ho
      go_wp2_with (go_at_call 36; refine hS.mono ?_; rintro e w9 ⟨⟨q9, c9, rfl, o9⟩, b9⟩; have O9 := hide o9.ls; have B9 := hide b9; clear o9 b9)
      go_ret
      exact ⟨⟨q9, c9, rfl, unhide O9⟩, below_sub (below_sub (unhide BYw) (below_sub (unhide B6) (unhide HB))) (unhide B9)⟩
theorem sm_one {α : Type} {L : List α} {s : α} (h : Sm L [s]) : L = [s] := by
  have h1 := h.2
  match L, h with
  | [], h => exact absurd ((h.1 s).2 List.mem_cons_self) (by simp)
  | [a], h => rw [List.mem_singleton.1 ((h.1 a).1 List.mem_cons_self)]
  | a :: b :: l, h => simp at h1
set_option maxRecDepth 100000 in
set_option maxHeartbeats 2000000 in
theorem rof_pre (kind : Int) (at0 : ByteArray) (qi : Option Addr) (ni ci : Nat) (qw : Option Addr) (nw cw : Nat) (lo hi : Int) (w : World) (attr : ByteArray) (lo1 hi1 : Int) (ints : List Int) (s : ByteArray) (h1 : ints.length ≤ 64) (ha : attr.size ≤ maxLen) (hs : s.size ≤ maxLen) (hN : ∀ W, Below w.heap.size w W → Calls Tryz.prog 34 #[.agg #[.int .i64 kind, .string at0, .slice qi ni ci, .slice qw nw cw, .int .i64 lo, .int .i64 hi]] W fun e w' => (∃ (L1 : List Int) (L2 : List ByteArray) (q1 : Option Addr) (c1 : Nat) (q2 : Option Addr) (c2 : Nat), e = .returned (.tuple #[.agg #[.int .i64 4, .string attr, .slice q1 L1.length c1, .slice q2 L2.length c2, .int .i64 lo1, .int .i64 hi1], .bool true]) ∧ SlOf encI 1 w' q1 c1 L1 ∧ SlOf encS 1 w' q2 c2 L2 ∧ Sm L1 ints ∧ Sm L2 [s]) ∧ Below W.heap.size W w') :
    Calls Tryz.prog 13 #[.agg #[.int .i64 kind, .string at0, .slice qi ni ci, .slice qw nw cw, .int .i64 lo, .int .i64 hi]] w fun e w' => (∃ q c, e = .returned (.slice q (ris [kPre attr s]).length c) ∧ SlOf encK 5 w' q c (ris [kPre attr s])) ∧ Below w.heap.size w w' := by
  have h2 : [s].length ≤ 64 := by simp
  obtain ⟨X, HX⟩ : ∃ X, w.alloc (.cells #[.int .i64 kind, .string at0, .slice qi ni ci, .slice qw nw cw, .int .i64 lo, .int .i64 hi] 25) = X := ⟨_, rfl⟩
  have bX : Below w.heap.size w X := by rw [← HX]; exact (Below.refl _ _).alloc (Nat.le_refl _) _
  have x8 : X.heap[w.heap.size]? = some (.cells #[.int .i64 kind, .string at0, .slice qi ni ci, .slice qw nw cw, .int .i64 lo, .int .i64 hi] 25 (0, 0)) := by rw [← HX]; exact World.alloc_heap_new _ _
  obtain ⟨x0, x1, x2, x3, x4, x5⟩ := of6R x8
  have BX := hide bX
  have hNX := hN X bX
  clear bX x8 hN
  go_enter Tryz.func13, Tryz.ntmps13
  go_upto_region 21 with (go_at_call 34; refine hNX.mono ?_; rintro e w1 ⟨⟨L1, L2, q1, c1, q2, c2, rfl, s1, s2, m1, m2⟩, b1⟩; have S1 := hide s1; have S2 := hide s2; have M1 := hide m1; have M2 := hide m2; have B1 := hide b1; clear b1 s1 s2 m1 m2)
  obtain ⟨Y, HY⟩ : ∃ Y, w1.alloc (.cells #[.int .i64 4, .string attr, .slice q1 L1.length c1, .slice q2 L2.length c2, .int .i64 lo1, .int .i64 hi1] 25) = Y := ⟨_, rfl⟩
  rw [HY]
  have y8 : Y.heap[w1.heap.size]? = some (.cells #[.int .i64 4, .string attr, .slice q1 L1.length c1, .slice q2 L2.length c2, .int .i64 lo1, .int .i64 hi1] 25 (0, 0)) := by rw [← HY]; exact World.alloc_heap_new _ _
  have bY : Below w1.heap.size w1 Y := by rw [← HY]; exact (Below.refl _ _).alloc (Nat.le_refl _) _
  have BYw := hide (below_sub (unhide BX) (below_sub (unhide B1) bY))
  have lY : w1.heap.size < Y.heap.size := (Array.getElem?_eq_some_iff.1 y8).1
  have T1 := hide ((unhide S1).below bY)
  have T2 := hide ((unhide S2).below bY)
  have N := hide (of6R y8)
  obtain ⟨n0, n1, n2, n3, n4, n5⟩ := of6R y8
  have u1 : L1.length ≤ 64 := Nat.le_trans (unhide M1).2 h1
  have u2 : L2.length ≤ 64 := Nat.le_trans (unhide M2).2 h2
  clear y8 bY HY
  have hL2 := sm_one (unhide M2)
  subst hL2
  have HSort := fun (W : World) (q : Option Addr) (c : Nat) (h : SlOf encK 5 W q c [kPre attr s]) => refSort [kPre attr s] (by simp) (fitK_of ha (by
    intro x hx
    obtain rfl := List.mem_singleton.1 hx; exact ⟨rfl, hs⟩)) q c W h
  obtain ⟨bs, os, hqs, hbs, r0⟩ := wordsAt (unhide T2) (j := 0) (x := s) rfl
  subst hqs
  rw [Nat.add_zero] at r0
  have HB := hide (Below.refl Y.heap.size Y)
  have HCY : ∀ W', Below Y.heap.size Y W' → (W'.cell? ⟨w1.heap.size, 1, none⟩ = some (.string attr) ∧ W'.cell? ⟨w1.heap.size, 3, none⟩ = some (.slice (some ⟨bs, os, none⟩) 1 c2) ∧ W'.cell? ⟨bs, os, none⟩ = some (.string s)) := fun W' hW => ⟨((hW.cell (p := ⟨w1.heap.size, 1, none⟩) lY).trans (unhide N).2.1), ((hW.cell (p := ⟨w1.heap.size, 3, none⟩) lY).trans (unhide N).2.2.2.1), (hW.cell (p := ⟨bs, os, none⟩) hbs).trans r0⟩
  have hs6 : Y.heap.size ≤ Y.heap.size := (unhide HB).size
  go_wp2
  go_region_held3 (fun W' => (W'.cell? ⟨w1.heap.size, 1, none⟩ = some (.string attr) ∧ W'.cell? ⟨w1.heap.size, 3, none⟩ = some (.slice (some ⟨bs, os, none⟩) 1 c2) ∧ W'.cell? ⟨bs, os, none⟩ = some (.string s))) (first | exact HCY _ (unhide HB5) | exact HCY _ (unhide HB5).drew | exact HCY _ (unhide HB5).drew.drew | exact HCY _ (unhide HB) | exact HCY _ (unhide HB).drew | exact HCY _ (unhide HB).drew.drew | exact HCY _ ((unhide HB).alloc hs6 _) | exact HCY _ ((unhide HB).drew.alloc hs6 _) | exact HCY _ ((unhide HB).alloc hs6 _).drew | exact HCY _ ((unhide HB).drew.drew.alloc hs6 _) | exact HCY _ ((unhide HB).drew.alloc hs6 _).drew | go_keep) (first
    | (refine step_app rowP (by rfl) _ _ (by rfl) Y.heap.size none 0 [] (some ⟨Y.heap.size, 0, none⟩) 1 [kPre attr s] 0 1 (0 + 1) (by simp) rfl rfl (by rfl) (by rfl) (OwnK.nil _ _) (srcKyA _ _) (by unfold maxLen; omega) (by omega) (by first | omega | (simp; omega) | simp) ?_; intro q5 c5 w5 ho5 hb5 _ hg5; have HO5 := hide ho5; have HB5 := hide (show Below Y.heap.size Y w5 by first | exact ((unhide HB).alloc hs6 _).trans hb5 | exact ((unhide HB).drew.alloc hs6 _).trans hb5 | exact ((unhide HB).drew.drew.alloc hs6 _).trans hb5); clear ho5 hb5))
  all_goals
    have hS := HSort w5 q5 c5 (unhide HO5).ls
    go_wp2_with (go_at_call 36; refine hS.mono ?_; rintro e w9 ⟨⟨q9, c9, rfl, o9⟩, b9⟩; have O9 := hide o9.ls; have B9 := hide b9; clear o9 b9)
    go_ret
    exact ⟨⟨q9, c9, rfl, unhide O9⟩, below_sub (below_sub (unhide BYw) (unhide HB5)) (unhide B9)⟩

end Go.Proofs.YtedakipjfpdajaaGreatDoor
