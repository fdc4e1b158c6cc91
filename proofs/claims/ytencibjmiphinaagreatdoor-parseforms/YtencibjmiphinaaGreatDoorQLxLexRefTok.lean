/- What the reference's token returns, for every text and every place in it. -/
import Derived.Test.YtencibjmiphinaaGreatDoorQLxLexAt
namespace Go.Proofs.YtencibjmiphinaaGreatDoor.Lx
open Go.RowKit

theorem okB_cases {c : Int} {a b d : Bool} (ha : isLet c = a) (hb : isDig c = b) (hd : (c == 95) = d) : okB c = (a || b || d) := by unfold okB; rw [ha, hb, hd]
set_option maxHeartbeats 2000000 in
theorem rt_name (s : ByteArray) (i : Nat) (w : World) (hi : i < s.size) (hs : s.size ≤ 1000000) (hL : isLet (s[i].toNat : Int) = true) (j : Nat) (hj : i + rl okB (s.data.toList.drop i) = j) (b : Bool) (hn : nameOk (s.extract i j) = b) :
    Calls Tryz.prog 55 #[.string s, .int .i64 i] w fun e w' => e = .returned (.tuple #[.agg #[.int .i64 1, .int .i64 i, .int .i64 j, .int .i64 0, .string (s.extract i j)], .bool b]) ∧ Below w.heap.size w w' := by
  have a0 : (0 : Int) ≤ (i : Int) := by omega
  have a1 : (i : Int) < (s.size : Int) := by omega
  have a2 : (s.size : Int) ≤ 1000000 := by omega
  have HJ := hide (show i + 1 + rl okB (s.data.toList.drop (i + 1)) = j by
    rw [← hj, drop_at s i hi, rl_yes (let_ok hL)]; omega)
  have hl := fun w => refLet_any (s[i].toNat : Int) w
  rw [hL] at hl
  have hnm := fun w => refName_any (s.extract i j) w
  rw [hn] at hnm
  clear hL hj hn
  go_enter Tryz.func55, Tryz.ntmps55
  go_wp2_with (go_at_call 94; refine (hl _).mono ?_; rintro e w' ⟨rfl, rfl⟩)
  clear hl
  go_loop [6] (fun v => ∃ k : Nat, i ≤ k ∧ k ≤ s.size ∧ v = .int .i64 k ∧ k + rl okB (s.data.toList.drop k) = j) (fun v => s.size - (intOf v).toNat)
  case atStart => exact ⟨i + 1, by omega, by omega, by go_num, unhide HJ⟩
  case round =>
    clear HJ
    obtain ⟨k, hik, hk, rfl, heq⟩ := hrel
    have Heq := hide heq
    clear heq
    by_cases hlt : k < s.size
    · have b0 : (0 : Int) ≤ (k : Int) := by omega
      have b1 : (k : Int) < (s.size : Int) := by omega
      have hl := fun w => refLet_any (s[k].toNat : Int) w
      have hd := fun w => refDig_any (s[k].toNat : Int) w
      cases hA : isLet (s[k].toNat : Int) with
      | true =>
        have Hy := hide (run_step hlt (i := k) rfl (let_ok hA))
        rw [hA] at hl
        go_wp2_with (go_at_call 94; refine (hl _).mono ?_; rintro e w' ⟨rfl, rfl⟩)
        exact ⟨⟨k + 1, by omega, by omega, by go_num, (unhide Hy).symm.trans (unhide Heq)⟩, by simp [intOf]; omega⟩
      | false =>
        cases hB : isDig (s[k].toNat : Int) with
        | true =>
          have Hy := hide (run_step (p := okB) hlt (i := k) rfl (by rw [okB_cases hA hB rfl]; rfl))
          rw [hA] at hl
          rw [hB] at hd
          go_wp2_with (first | (go_at_call 94; refine (hl _).mono ?_; rintro e w' ⟨rfl, rfl⟩) | (go_at_call 95; refine (hd _).mono ?_; rintro e w' ⟨rfl, rfl⟩))
          exact ⟨⟨k + 1, by omega, by omega, by go_num, (unhide Hy).symm.trans (unhide Heq)⟩, by simp [intOf]; omega⟩
        | false =>
          cases hC : ((s[k].toNat : Int) == 95) with
          | true =>
            have Hy := hide (run_step (p := okB) hlt (i := k) rfl (by rw [okB_cases hA hB hC]; rfl))
            rw [hA] at hl
            rw [hB] at hd
            go_wp2_with (first | (go_at_call 94; refine (hl _).mono ?_; rintro e w' ⟨rfl, rfl⟩) | (go_at_call 95; refine (hd _).mono ?_; rintro e w' ⟨rfl, rfl⟩))
            exact ⟨⟨k + 1, by omega, by omega, by go_num, (unhide Hy).symm.trans (unhide Heq)⟩, by simp [intOf]; omega⟩
          | false =>
            have Hy := (run_stop (p := okB) hlt (i := k) rfl (by rw [okB_cases hA hB hC]; rfl)).symm.trans (unhide Heq)
            subst Hy
            rw [hA] at hl
            rw [hB] at hd
            have j0 : (i : Int) ≤ (k : Int) := by omega
            go_wp2_with (first | (go_at_call 94; refine (hl _).mono ?_; rintro e w' ⟨rfl, rfl⟩) | (go_at_call 95; refine (hd _).mono ?_; rintro e w' ⟨rfl, rfl⟩))
            go_region_held3 (fun _ => True) (go_keep) ((go_at_call 33; refine (hnm _).mono ?_; rintro e w' ⟨rfl, rfl⟩))
            go_wp2
            refine bodyPost_ret (v := .tuple #[.agg #[.int .i64 1, .int .i64 i, .int .i64 k, .int .i64 0, .string (s.extract i k)], .bool b]) (by simp [results, Tryz.results55, go_sem]) rfl ⟨rfl, ?_⟩
            exact ((Below.refl _ _).alloc (Nat.le_refl _) _).drew
    · have Hy := (run_end (p := okB) hlt (i := k) rfl).symm.trans (unhide Heq)
      subst Hy
      have b1 : ¬ (k : Int) < (s.size : Int) := by omega
      have b0 : (0 : Int) ≤ (k : Int) := by omega
      have b2 : (k : Int) ≤ (s.size : Int) := by omega
      have j0 : (i : Int) ≤ (k : Int) := by omega
      go_wp2
      go_region_held3 (fun _ => True) (go_keep) ((go_at_call 33; refine (hnm _).mono ?_; rintro e w' ⟨rfl, rfl⟩))
      go_wp2
      refine bodyPost_ret (v := .tuple #[.agg #[.int .i64 1, .int .i64 i, .int .i64 k, .int .i64 0, .string (s.extract i k)], .bool b]) (by simp [results, Tryz.results55, go_sem]) rfl ⟨rfl, ?_⟩
      exact ((Below.refl _ _).alloc (Nat.le_refl _) _).drew
set_option maxHeartbeats 2000000 in
theorem rt_num1 (s : ByteArray) (i : Nat) (w : World) (hi : i < s.size) (hs : s.size ≤ 1000000) (hL : isLet (s[i].toNat : Int) = false) (hq : ((s[i].toNat : Int) == 45) = true) (j : Nat) (hj : i + 1 + rl isDig (s.data.toList.drop (i + 1)) = j) (n : Int) (b : Bool) (hn : ∀ w, Calls Tryz.prog 96 #[.string (s.extract i j), .int .i64 (-2147483648), .int .i64 2147483647] w fun e w' => e = .returned (.tuple #[.int .i64 n, .bool b]) ∧ Below w.heap.size w w') :
    Calls Tryz.prog 55 #[.string s, .int .i64 i] w fun e w' => e = .returned (.tuple #[.agg #[.int .i64 2, .int .i64 i, .int .i64 j, .int .i64 n, .string ⟨#[]⟩], .bool b]) ∧ Below w.heap.size w w' := by
  have a0 : (0 : Int) ≤ (i : Int) := by omega
  have a1 : (i : Int) < (s.size : Int) := by omega
  have a2 : (s.size : Int) ≤ 1000000 := by omega
  have HJ := hide hj
  have hl := fun w => refLet_any (s[i].toNat : Int) w
  rw [hL] at hl
  clear hL hj
  go_enter Tryz.func55, Tryz.ntmps55
  go_wp2_with (first | (go_at_call 94; refine (hl _).mono ?_; rintro e w' ⟨rfl, rfl⟩))
  clear hl
  go_loop [6] (fun v => ∃ k : Nat, i ≤ k ∧ k ≤ s.size ∧ v = .int .i64 k ∧ k + rl isDig (s.data.toList.drop k) = j) (fun v => s.size - (intOf v).toNat)
  case atStart => exact ⟨i + 1, by omega, by omega, by go_num, unhide HJ⟩
  case round =>
    clear HJ
    obtain ⟨k, hik, hk, rfl, heq⟩ := hrel
    have Heq := hide heq
    clear heq
    by_cases hlt : k < s.size
    · have b0 : (0 : Int) ≤ (k : Int) := by omega
      have b1 : (k : Int) < (s.size : Int) := by omega
      have hd := fun w => refDig_any (s[k].toNat : Int) w
      cases hB : isDig (s[k].toNat : Int) with
      | true =>
        have Hy := hide (run_step hlt (i := k) rfl hB)
        rw [hB] at hd
        go_wp2_with (go_at_call 95; refine (hd _).mono ?_; rintro e w' ⟨rfl, rfl⟩)
        exact ⟨⟨k + 1, by omega, by omega, by go_num, (unhide Hy).symm.trans (unhide Heq)⟩, by simp [intOf]; omega⟩
      | false =>
        have Hy := (run_stop hlt (i := k) rfl hB).symm.trans (unhide Heq)
        subst Hy
        rw [hB] at hd
        have j0 : (i : Int) ≤ (k : Int) := by omega
        go_wp2_with (first | (go_at_call 95; refine (hd _).mono ?_; rintro e w' ⟨rfl, rfl⟩) | (go_at_call 96; refine (hn _).mono ?_; rintro e w1 ⟨rfl, hb⟩; obtain ⟨hz, ⟨c0, c1, c2, c3, c4⟩, ⟨f0, f1, f2, f3, f4⟩⟩ := box5 hb; have Hb := hide hb; clear hb))
        refine bodyPost_ret (v := .tuple #[.agg #[.int .i64 2, .int .i64 i, .int .i64 k, .int .i64 n, .string ⟨#[]⟩], .bool b]) (by simp [results, Tryz.results55, go_sem, c0, c1, c2, c3, c4]) rfl ⟨rfl, ?_⟩
        exact below_st5 (unhide Hb) _ _ _ _ _
    · have Hy := (run_end hlt (i := k) (p := isDig) rfl).symm.trans (unhide Heq)
      subst Hy
      have b1 : ¬ (k : Int) < (s.size : Int) := by omega
      have b0 : (0 : Int) ≤ (k : Int) := by omega
      have b2 : (k : Int) ≤ (s.size : Int) := by omega
      have j0 : (i : Int) ≤ (k : Int) := by omega
      go_wp2_with (go_at_call 96; refine (hn _).mono ?_; rintro e w1 ⟨rfl, hb⟩; obtain ⟨hz, ⟨c0, c1, c2, c3, c4⟩, ⟨f0, f1, f2, f3, f4⟩⟩ := box5 hb; have Hb := hide hb; clear hb)
      refine bodyPost_ret (v := .tuple #[.agg #[.int .i64 2, .int .i64 i, .int .i64 k, .int .i64 n, .string ⟨#[]⟩], .bool b]) (by simp [results, Tryz.results55, go_sem, c0, c1, c2, c3, c4]) rfl ⟨rfl, ?_⟩
      exact below_st5 (unhide Hb) _ _ _ _ _
set_option maxHeartbeats 2000000 in
theorem rt_num2 (s : ByteArray) (i : Nat) (w : World) (hi : i < s.size) (hs : s.size ≤ 1000000) (hL : isLet (s[i].toNat : Int) = false) (hq : ((s[i].toNat : Int) == 45) = false) (hD : isDig (s[i].toNat : Int) = true) (j : Nat) (hj : i + 1 + rl isDig (s.data.toList.drop (i + 1)) = j) (n : Int) (b : Bool) (hn : ∀ w, Calls Tryz.prog 96 #[.string (s.extract i j), .int .i64 (-2147483648), .int .i64 2147483647] w fun e w' => e = .returned (.tuple #[.int .i64 n, .bool b]) ∧ Below w.heap.size w w') :
    Calls Tryz.prog 55 #[.string s, .int .i64 i] w fun e w' => e = .returned (.tuple #[.agg #[.int .i64 2, .int .i64 i, .int .i64 j, .int .i64 n, .string ⟨#[]⟩], .bool b]) ∧ Below w.heap.size w w' := by
  have a0 : (0 : Int) ≤ (i : Int) := by omega
  have a1 : (i : Int) < (s.size : Int) := by omega
  have a2 : (s.size : Int) ≤ 1000000 := by omega
  have HJ := hide hj
  have hl := fun w => refLet_any (s[i].toNat : Int) w
  rw [hL] at hl
  have hd := fun w => refDig_any (s[i].toNat : Int) w
  rw [hD] at hd
  clear hL hj hD
  go_enter Tryz.func55, Tryz.ntmps55
  go_wp2_with (first | (go_at_call 94; refine (hl _).mono ?_; rintro e w' ⟨rfl, rfl⟩) | (go_at_call 95; refine (hd _).mono ?_; rintro e w' ⟨rfl, rfl⟩))
  clear hl hd
  go_loop [6] (fun v => ∃ k : Nat, i ≤ k ∧ k ≤ s.size ∧ v = .int .i64 k ∧ k + rl isDig (s.data.toList.drop k) = j) (fun v => s.size - (intOf v).toNat)
  case atStart => exact ⟨i + 1, by omega, by omega, by go_num, unhide HJ⟩
  case round =>
    clear HJ
    obtain ⟨k, hik, hk, rfl, heq⟩ := hrel
    have Heq := hide heq
    clear heq
    by_cases hlt : k < s.size
    · have b0 : (0 : Int) ≤ (k : Int) := by omega
      have b1 : (k : Int) < (s.size : Int) := by omega
      have hd := fun w => refDig_any (s[k].toNat : Int) w
      cases hB : isDig (s[k].toNat : Int) with
      | true =>
        have Hy := hide (run_step hlt (i := k) rfl hB)
        rw [hB] at hd
        go_wp2_with (go_at_call 95; refine (hd _).mono ?_; rintro e w' ⟨rfl, rfl⟩)
        exact ⟨⟨k + 1, by omega, by omega, by go_num, (unhide Hy).symm.trans (unhide Heq)⟩, by simp [intOf]; omega⟩
      | false =>
        have Hy := (run_stop hlt (i := k) rfl hB).symm.trans (unhide Heq)
        subst Hy
        rw [hB] at hd
        have j0 : (i : Int) ≤ (k : Int) := by omega
        go_wp2_with (first | (go_at_call 95; refine (hd _).mono ?_; rintro e w' ⟨rfl, rfl⟩) | (go_at_call 96; refine (hn _).mono ?_; rintro e w1 ⟨rfl, hb⟩; obtain ⟨hz, ⟨c0, c1, c2, c3, c4⟩, ⟨f0, f1, f2, f3, f4⟩⟩ := box5 hb; have Hb := hide hb; clear hb))
        refine bodyPost_ret (v := .tuple #[.agg #[.int .i64 2, .int .i64 i, .int .i64 k, .int .i64 n, .string ⟨#[]⟩], .bool b]) (by simp [results, Tryz.results55, go_sem, c0, c1, c2, c3, c4]) rfl ⟨rfl, ?_⟩
        exact below_st5 (unhide Hb) _ _ _ _ _
    · have Hy := (run_end hlt (i := k) (p := isDig) rfl).symm.trans (unhide Heq)
      subst Hy
      have b1 : ¬ (k : Int) < (s.size : Int) := by omega
      have b0 : (0 : Int) ≤ (k : Int) := by omega
      have b2 : (k : Int) ≤ (s.size : Int) := by omega
      have j0 : (i : Int) ≤ (k : Int) := by omega
      go_wp2_with (go_at_call 96; refine (hn _).mono ?_; rintro e w1 ⟨rfl, hb⟩; obtain ⟨hz, ⟨c0, c1, c2, c3, c4⟩, ⟨f0, f1, f2, f3, f4⟩⟩ := box5 hb; have Hb := hide hb; clear hb)
      refine bodyPost_ret (v := .tuple #[.agg #[.int .i64 2, .int .i64 i, .int .i64 k, .int .i64 n, .string ⟨#[]⟩], .bool b]) (by simp [results, Tryz.results55, go_sem, c0, c1, c2, c3, c4]) rfl ⟨rfl, ?_⟩
      exact below_st5 (unhide Hb) _ _ _ _ _
set_option maxHeartbeats 2000000 in
theorem rt_word (s : ByteArray) (i : Nat) (w : World) (hi : i < s.size) (hs : s.size ≤ 1000000) (hL : isLet (s[i].toNat : Int) = false) (hq : ((s[i].toNat : Int) == 45) = false) (hD : isDig (s[i].toNat : Int) = false) (hm : ((s[i].toNat : Int) == 34) = true) (j : Nat) (hj : wR s (i + 1) = j) (hij : i < j) (hjs : j ≤ s.size) (k n er : Int) (t : ByteArray) (b : Bool) (hb0 : (er == 0) = b) (hp : ∀ w, Calls Tryz.prog 98 #[.string (s.extract i j)] w fun e w' => e = .returned (.tuple #[.agg #[.int .i64 k, .int .i64 n, .string t], .int .i64 er]) ∧ Below w.heap.size w w') :
    Calls Tryz.prog 55 #[.string s, .int .i64 i] w fun e w' => e = .returned (.tuple #[.agg #[.int .i64 3, .int .i64 i, .int .i64 j, .int .i64 0, .string t], .bool b]) ∧ Below w.heap.size w w' := by
  have a0 : (0 : Int) ≤ (i : Int) := by omega
  have a1 : (i : Int) < (s.size : Int) := by omega
  have a2 : (s.size : Int) ≤ 1000000 := by omega
  have hl := fun w => refLet_any (s[i].toNat : Int) w
  rw [hL] at hl
  have hd := fun w => refDig_any (s[i].toNat : Int) w
  rw [hD] at hd
  have hr := fun w => refWord_any s i w hi (by omega) j hj
  have j0 : ((j : Int) == 0) = false := by simp; omega
  have j1 : (i : Int) ≤ (j : Int) := by omega
  have j2 : (j : Int) ≤ (s.size : Int) := by omega
  clear hL hD hj
  go_enter Tryz.func55, Tryz.ntmps55
  go_wp2_with (first | (go_at_call 94; refine (hl _).mono ?_; rintro e w' ⟨rfl, rfl⟩) | (go_at_call 95; refine (hd _).mono ?_; rintro e w' ⟨rfl, rfl⟩) | (go_at_call 97; refine (hr _).mono ?_; rintro e w' ⟨rfl, rfl⟩) | (go_at_call 98; refine (hp _).mono ?_; rintro e w1 ⟨rfl, hb⟩; obtain ⟨hz, ⟨c0, c1, c2, c3, c4⟩, ⟨f0, f1, f2, f3, f4⟩⟩ := box5 hb; have Hb := hide hb; clear hb))
  refine bodyPost_ret (v := .tuple #[.agg #[.int .i64 3, .int .i64 i, .int .i64 j, .int .i64 0, .string t], .bool b]) (by simp [results, Tryz.results55, go_sem, c0, c1, c2, c3, c4, hz]) rfl ⟨rfl, ?_⟩
  exact (below_st5 (unhide Hb) _ _ _ _ _).alloc (below_st5 (unhide Hb) _ _ _ _ _).size _
set_option maxHeartbeats 2000000 in
theorem rt_noend (s : ByteArray) (i : Nat) (w : World) (hi : i < s.size) (hs : s.size ≤ 1000000) (hL : isLet (s[i].toNat : Int) = false) (hq : ((s[i].toNat : Int) == 45) = false) (hD : isDig (s[i].toNat : Int) = false) (hm : ((s[i].toNat : Int) == 34) = true) (hj : wR s (i + 1) = 0) :
    Calls Tryz.prog 55 #[.string s, .int .i64 i] w fun e w' => e = .returned (.tuple #[.agg #[.int .i64 0, .int .i64 0, .int .i64 0, .int .i64 0, .string ⟨#[]⟩], .bool false]) ∧ Below w.heap.size w w' := by
  have a0 : (0 : Int) ≤ (i : Int) := by omega
  have a1 : (i : Int) < (s.size : Int) := by omega
  have a2 : (s.size : Int) ≤ 1000000 := by omega
  have hl := fun w => refLet_any (s[i].toNat : Int) w
  rw [hL] at hl
  have hd := fun w => refDig_any (s[i].toNat : Int) w
  rw [hD] at hd
  have hr := fun w => refWord_any s i w hi (by omega) 0 hj
  clear hL hD hj
  go_enter Tryz.func55, Tryz.ntmps55
  go_wp2_with (first | (go_at_call 94; refine (hl _).mono ?_; rintro e w' ⟨rfl, rfl⟩) | (go_at_call 95; refine (hd _).mono ?_; rintro e w' ⟨rfl, rfl⟩) | (go_at_call 97; refine (hr _).mono ?_; rintro e w' ⟨rfl, rfl⟩))
  refine bodyPost_ret (v := .tuple #[.agg #[.int .i64 0, .int .i64 0, .int .i64 0, .int .i64 0, .string ⟨#[]⟩], .bool false]) (by simp [results, Tryz.results55, go_sem]) rfl ⟨rfl, ?_⟩
  exact (Below.refl _ _).alloc (Nat.le_refl _) _
set_option maxHeartbeats 2000000 in
theorem rt_sign (s : ByteArray) (i : Nat) (w : World) (hi : i < s.size) (hs : s.size ≤ 1000000) (hL : isLet (s[i].toNat : Int) = false) (hq : ((s[i].toNat : Int) == 45) = false) (hD : isDig (s[i].toNat : Int) = false) (hm : ((s[i].toNat : Int) == 34) = false) (b : Bool) (hS : isSign s[i] = b) :
    Calls Tryz.prog 55 #[.string s, .int .i64 i] w fun e w' => e = .returned (.tuple #[.agg #[.int .i64 4, .int .i64 i, .int .i64 ((i : Int) + 1), .int .i64 0, .string (s.extract i (i + 1))], .bool b]) ∧ Below w.heap.size w w' := by
  have a0 : (0 : Int) ≤ (i : Int) := by omega
  have a1 : (i : Int) < (s.size : Int) := by omega
  have a2 : (s.size : Int) ≤ 1000000 := by omega
  have hl := fun w => refLet_any (s[i].toNat : Int) w
  rw [hL] at hl
  have hd := fun w => refDig_any (s[i].toNat : Int) w
  rw [hD] at hd
  have a3 : (i : Int) + 1 ≤ (s.size : Int) := by omega
  have a4 : (0 : Int) ≤ (i : Int) + 1 := by omega
  have a5 : (i : Int) ≤ (i : Int) + 1 := by omega
  have hsg := fun w => refSign_any s[i] w
  rw [hS] at hsg
  clear hL hD hS
  go_enter Tryz.func55, Tryz.ntmps55
  go_wp2_with (first | (go_at_call 94; refine (hl _).mono ?_; rintro e w' ⟨rfl, rfl⟩) | (go_at_call 95; refine (hd _).mono ?_; rintro e w' ⟨rfl, rfl⟩))
  go_region_held3 (fun _ => True) (go_keep) ((go_at_call 99; refine (hsg _).mono ?_; rintro e w' ⟨rfl, rfl⟩))
  go_wp2
  refine bodyPost_ret (v := .tuple #[.agg #[.int .i64 4, .int .i64 i, .int .i64 ((i : Int) + 1), .int .i64 0, .string (s.extract i (i + 1))], .bool b]) (by simp [results, Tryz.results55, go_sem]) rfl ⟨rfl, ?_⟩
  exact ((Below.refl _ _).alloc (Nat.le_refl _) _).drew
end Go.Proofs.YtencibjmiphinaaGreatDoor.Lx
