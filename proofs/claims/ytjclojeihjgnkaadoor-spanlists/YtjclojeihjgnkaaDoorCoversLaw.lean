/- The law SpanCovers: the spans of a cover rise, meet nowhere, leave nothing out, are at most 62, and none has a parent within. -/
import Derived.Test.YtjclojeihjgnkaaDoorCovPlain
namespace Go.Proofs.YtjclojeihjgnkaaDoor
open Go.RowKit

theorem covZ_none {lo hi : Int} (h : ¬ max lo (-2147483648) ≤ min hi 2147483647) : coverZ lo hi = [] := by
  unfold coverZ
  rw [show (min hi 2147483647 - max lo (-2147483648) + 1).toNat = 0 by omega, cover_zero]

set_option maxHeartbeats 2000000 in
/-- One round: the head (l, i) of what is left, whose parent does not lie within. -/
theorem spanCovers_any (lo hi : Int) (w : World) (hG : G w) : Calls Tryd.prog 5 #[.int .i64 lo, .int .i64 hi] w fun e w' => e = .returned (.bool true) ∧ Below w.heap.size w w' := by
  have hfix := fixed_any
  have hcv := cover_any lo hi
  have HG := hide hG
  clear hG
  by_cases hxy : max lo (-2147483648) ≤ min hi 2147483647
  · have ecov : coverZ lo hi = cover (max lo (-2147483648) + 2147483648).toNat (min hi 2147483647 - max lo (-2147483648) + 1).toNat := rfl
    obtain ⟨x, hx⟩ : ∃ x, max lo (-2147483648) = x := ⟨_, rfl⟩
    obtain ⟨y, hy⟩ : ∃ y, min hi 2147483647 = y := ⟨_, rfl⟩
    rw [hx, hy] at ecov hxy
    have hx1 : -2147483648 ≤ x := by omega
    have hy1 : y ≤ 2147483647 := by omega
    obtain ⟨P0, hP⟩ : ∃ P0, (x + 2147483648).toNat = P0 := ⟨_, rfl⟩
    obtain ⟨R, hR⟩ : ∃ R, (y - x + 1).toNat = R := ⟨_, rfl⟩
    rw [hP, hR] at ecov
    have hPx : (P0 : Int) = x + 2147483648 := by omega
    have hRx : (R : Int) = y - x + 1 := by omega
    have hPR : P0 + R ≤ 4294967296 := by omega
    have hlen := cover_len P0 R hPR
    rw [← ecov] at hlen
    obtain ⟨cv, hcvl⟩ : ∃ cv, coverZ lo hi = cv := ⟨_, rfl⟩
    rw [hcvl] at hcv ecov hlen
    obtain ⟨n, hn⟩ : ∃ n, cv.length = n := ⟨_, rfl⟩
    have hcv2 : ∀ w, G w → Calls Tryd.prog 22 #[.int .i64 lo, .int .i64 hi] w fun e w' => ∃ q cap, e = .returned (.slice q n cap) ∧ OwnK encP 23 2 w.heap.size w' q cap cv ∧ Below w.heap.size w w' := by
      rw [hn] at hcv
      exact hcv
    rw [hn] at hlen
    have HE := hide (And.intro ecov hn)
    clear hcv hcvl ecov hn hP hR
    go_enter Tryd.func5, Tryd.ntmps5
    go_wp2_with (first
      | (go_at_call 9; refine (hfix _ (unhide HG)).mono ?_; rintro e w1 ⟨rfl, b1⟩; have B1 := hide b1; clear b1)
      | (go_at_call 22; refine (hcv2 _ ((unhide HG).below' (unhide B1))).mono ?_; rintro e w2 ⟨q, cap, rfl, o2, b2⟩; have O2 := hide o2; have B2 := hide (below_sub (unhide B1) b2); clear o2 b2))
    go_loopw [6, 33] (fun a i wr => ∃ (k p r : Nat) (d : List (Nat × Nat)), k ≤ n ∧ i = .int .i64 k ∧ a = .int .i64 ((p : Int) - 2147483648) ∧ p + r = P0 + R ∧ cv = d ++ cover p r ∧ d.length = k ∧ Inv P0 p r ∧ Below w2.heap.size w2 wr) (fun _ i _ => n - (intOf i).toNat)
    case atStart =>
      refine ⟨0, P0, R, [], by omega, rfl, ?_, rfl, (unhide HE).1, rfl, inv0 _ _, Below.refl _ _⟩
      congr 1
      omega
    case round =>
      obtain ⟨k, p, r, d, hk, rfl, rfl, hpr, hcvd, hd, hinv, hbel⟩ := hrel
      by_cases h0 : 0 < r
      · have hst := cover_step p r h0
        have hlt : k < n := by
          have := congrArg List.length hcvd
          rw [hst, List.length_append, List.length_cons, (unhide HE).2, hd] at this
          omega
        obtain ⟨hok, hi2, hle, hl32⟩ := head_ok (p := p) (r := r) h0 (by omega)
        have hout := par_out hinv h0 (by omega) hpr
        have hnxt := inv_step hinv h0 (by omega)
        have hxk : cv[k]? = some (lv p r, p / 2 ^ lv p r) := by
          rw [hcvd, hst, ← hd]
          simp
        obtain ⟨bb, off, rfl, hbb, hcc⟩ := LsOf.at ((unhide O2).ls.below hbel).2.2.2 hxk
        obtain ⟨g0, g1⟩ := cells2 hcc
        obtain ⟨l, hl⟩ : ∃ l, lv p r = l := ⟨_, rfl⟩
        rw [hl] at hok hi2 hle hl32 hout hnxt hxk hst g0 g1
        obtain ⟨i, hi3⟩ : ∃ i, p / 2 ^ l = i := ⟨_, rfl⟩
        rw [hi3] at hok hi2 hout hxk hst g0 g1
        have hcv3 : cv = (d ++ [(l, i)]) ++ cover (p + 2 ^ l) (r - 2 ^ l) := by rw [hcvd, hst]; simp
        have HN := hide (And.intro hcv3 hnxt)
        have eA : loS l i = (p : Int) - 2147483648 := by unfold loS; omega
        have eB : hiS l i = ((p + 2 ^ l : Nat) : Int) - 2147483648 - 1 := by unfold hiS; omega
        have hT := Nat.two_pow_pos l
        have h10 := bounds_good l i hok
        have h14 := check_good l i hok
        rw [eA, eB] at h10
        obtain ⟨T, hTe⟩ : ∃ T, 2 ^ l = T := ⟨_, rfl⟩
        have HT := hide hTe
        rw [hTe] at h10 hT hle
        obtain ⟨A, hA⟩ : ∃ A : Int, (p : Int) - 2147483648 = A := ⟨_, rfl⟩
        obtain ⟨B, hB⟩ : ∃ B : Int, ((p + T : Nat) : Int) - 2147483648 - 1 = B := ⟨_, rfl⟩
        rw [hA, hB] at h10
        rw [hA]
        have f1 : A ≤ B := by omega
        have f2 : B ≤ y := by omega
        have f3 : B ≤ 2147483647 := by omega
        have f4 : -2147483648 ≤ B := by omega
        have ki0 : (0 : Int) ≤ (k : Int) := by omega
        have ki1 : (k : Int) < (n : Int) := by omega
        by_cases hl31 : l < 32
        · have hup := okN_up hok hl31
          have h12 := parent_good l i hok hl31
          have h10' := bounds_good (l + 1) (i / 2) hup
          obtain ⟨C, hC⟩ : ∃ C, loS (l + 1) (i / 2) = C := ⟨_, rfl⟩
          obtain ⟨D, hD⟩ : ∃ D, hiS (l + 1) (i / 2) = D := ⟨_, rfl⟩
          rw [hC, hD] at h10'
          have hno : ¬ (x ≤ C ∧ D ≤ y) := by
            rintro ⟨a1, a2⟩
            refine hout ⟨?_, ?_⟩
            · unfold loS at hC; omega
            · unfold hiS at hD; omega
          obtain ⟨L1, hL1⟩ : ∃ L1, ((l + 1 : Nat) : Int) = L1 := ⟨_, rfl⟩
          obtain ⟨I1, hI1⟩ : ∃ I1, ((i / 2 : Nat) : Int) = I1 := ⟨_, rfl⟩
          rw [hL1, hI1] at h12 h10'
          have HZ := hide (And.intro hA (And.intro hB (And.intro hpr (And.intro hd hbel))))
          clear hst hcvd hcv3 hnxt hxk hcc hout hinv hi2 hok hup hi3 hTe eA eB hA hB hC hD hL1 hI1 hd hl
          by_cases hxC : x ≤ C
          · have hyD : ¬ D ≤ y := fun g => hno ⟨hxC, g⟩
            clear hno
            go_wp2_with (first
              | (go_at_call 14; refine (h14 _).mono ?_; rintro e w4 ⟨rfl, b4⟩; have y0 := (b4.cell (p := ⟨wr.heap.size, 0, none⟩) (by exact s3)).trans x0; have y1 := (b4.cell (p := ⟨wr.heap.size, 1, none⟩) (by exact s3)).trans x1; have B4 := hide (below_sub bel3 b4); clear b4 x0 x1 bel3)
              | (go_at_call 12; refine (h12 _).mono ?_; rintro e w5 ⟨rfl, b5⟩; have B5 := hide (below_sub (unhide B4) b5); clear b5)
              | (go_at_call 10; with_reducible refine (h10 _).mono ?_; rintro e w3 ⟨rfl, b3⟩; obtain ⟨x0, x1, bel3, s3⟩ := box_cells b3; clear b3)
              | (go_at_call 10; with_reducible refine (h10' _).mono ?_; rintro e w6 ⟨rfl, b6⟩; have B6 := hide (below_sub (unhide B5) (below_al b6)); clear b6))
            obtain ⟨hA, hB, hpr, hd, hbel⟩ := unhide HZ
            obtain ⟨n1, n2⟩ := unhide HN
            rw [unhide HT] at n1 n2
            exact ⟨⟨k + 1, p + T, r - T, d ++ [(l, i)], by omega, by simp, congrArg (Value.int IntKind.i64) (by omega), by omega, n1, by simp [hd], n2, below_sub hbel (unhide B6)⟩, by simp [intOf]; omega⟩
          · clear hno
            go_wp2_with (first
              | (go_at_call 14; refine (h14 _).mono ?_; rintro e w4 ⟨rfl, b4⟩; have y0 := (b4.cell (p := ⟨wr.heap.size, 0, none⟩) (by exact s3)).trans x0; have y1 := (b4.cell (p := ⟨wr.heap.size, 1, none⟩) (by exact s3)).trans x1; have B4 := hide (below_sub bel3 b4); clear b4 x0 x1 bel3)
              | (go_at_call 12; refine (h12 _).mono ?_; rintro e w5 ⟨rfl, b5⟩; have B5 := hide (below_sub (unhide B4) b5); clear b5)
              | (go_at_call 10; with_reducible refine (h10 _).mono ?_; rintro e w3 ⟨rfl, b3⟩; obtain ⟨x0, x1, bel3, s3⟩ := box_cells b3; clear b3)
              | (go_at_call 10; with_reducible refine (h10' _).mono ?_; rintro e w6 ⟨rfl, b6⟩; have B6 := hide (below_sub (unhide B5) (below_al b6)); clear b6))
            obtain ⟨hA, hB, hpr, hd, hbel⟩ := unhide HZ
            obtain ⟨n1, n2⟩ := unhide HN
            rw [unhide HT] at n1 n2
            exact ⟨⟨k + 1, p + T, r - T, d ++ [(l, i)], by omega, by simp, congrArg (Value.int IntKind.i64) (by omega), by omega, n1, by simp [hd], n2, below_sub hbel (unhide B6)⟩, by simp [intOf]; omega⟩
        · have hl3 : l = 32 := by omega
          have h12 : ∀ w, Calls Tryd.prog 12 #[.agg #[.int .i64 (l : Int), .int .i64 i]] w fun e w' => e = .returned (.tuple #[.agg #[.int .i64 0, .int .i64 0], .bool false]) ∧ Below w.heap.size w w' := by
            rw [hl3] at hok ⊢
            exact parent_top i hok
          have h10' : ∀ w, Calls Tryd.prog 10 #[.agg #[.int .i64 0, .int .i64 0]] w fun e w' => e = .returned (.tuple #[.int .i64 (loS 0 0), .int .i64 (hiS 0 0)]) ∧ Below w.heap.size w w' := bounds_good 0 0 ⟨32, rfl, by decide⟩
          obtain ⟨C, hC⟩ : ∃ C, loS 0 0 = C := ⟨_, rfl⟩
          obtain ⟨D, hD⟩ : ∃ D, hiS 0 0 = D := ⟨_, rfl⟩
          rw [hC, hD] at h10'
          have HZ := hide (And.intro hA (And.intro hB (And.intro hpr (And.intro hd hbel))))
          clear hst hcvd hcv3 hnxt hxk hcc hout hinv hi2 hok hi3 hTe eA eB hA hB hC hD hd hl hl3 hl31
          · skip
            go_wp2_with (first
              | (go_at_call 14; refine (h14 _).mono ?_; rintro e w4 ⟨rfl, b4⟩; have y0 := (b4.cell (p := ⟨wr.heap.size, 0, none⟩) (by exact s3)).trans x0; have y1 := (b4.cell (p := ⟨wr.heap.size, 1, none⟩) (by exact s3)).trans x1; have B4 := hide (below_sub bel3 b4); clear b4 x0 x1 bel3)
              | (go_at_call 12; refine (h12 _).mono ?_; rintro e w5 ⟨rfl, b5⟩; have B5 := hide (below_sub (unhide B4) b5); clear b5)
              | (go_at_call 10; with_reducible refine (h10 _).mono ?_; rintro e w3 ⟨rfl, b3⟩; obtain ⟨x0, x1, bel3, s3⟩ := box_cells b3; clear b3)
              | (go_at_call 10; with_reducible refine (h10' _).mono ?_; rintro e w6 ⟨rfl, b6⟩; have B6 := hide (below_sub (unhide B5) (below_al b6)); clear b6))
            obtain ⟨hA, hB, hpr, hd, hbel⟩ := unhide HZ
            obtain ⟨n1, n2⟩ := unhide HN
            rw [unhide HT] at n1 n2
            exact ⟨⟨k + 1, p + T, r - T, d ++ [(l, i)], by omega, by simp, congrArg (Value.int IntKind.i64) (by omega), by omega, n1, by simp [hd], n2, below_sub hbel (unhide B6)⟩, by simp [intOf]; omega⟩
      · obtain rfl : r = 0 := by omega
        have hkn : k = n := by
          have := congrArg List.length hcvd
          rw [cover_zero, List.append_nil, (unhide HE).2, hd] at this
          exact this.symm
        subst hkn
        have ki1 : ¬ (k : Int) < (k : Int) := by omega
        have eA : (p : Int) - 2147483648 = y + 1 := by omega
        rw [eA]
        have HB := hide hbel
        clear hcvd hinv hd hpr eA hbel
        go_wp2
        go_ret
        exact ⟨by simp_all <;> omega, below_sub (unhide B2) (unhide HB)⟩
  · have hcv2 : ∀ w, G w → Calls Tryd.prog 22 #[.int .i64 lo, .int .i64 hi] w fun e w' => ∃ q cap, e = .returned (.slice q 0 cap) ∧ Below w.heap.size w w' := by
      intro w g
      have h := hcv w g
      rw [covZ_none hxy] at h
      exact h.mono fun e w' ⟨q, cap, h1, _, h3⟩ => ⟨q, cap, h1, h3⟩
    obtain ⟨x, hx⟩ : ∃ x, max lo (-2147483648) = x := ⟨_, rfl⟩
    obtain ⟨y, hy⟩ : ∃ y, min hi 2147483647 = y := ⟨_, rfl⟩
    rw [hx, hy] at hxy
    clear hcv
    go_enter Tryd.func5, Tryd.ntmps5
    go_wp2_with (first
      | (go_at_call 9; refine (hfix _ (unhide HG)).mono ?_; rintro e w1 ⟨rfl, b1⟩; have B1 := hide b1; clear b1)
      | (go_at_call 22; refine (hcv2 _ ((unhide HG).below' (unhide B1))).mono ?_; rintro e w2 ⟨q, cap, rfl, b2⟩; have B2 := hide (below_sub (unhide B1) b2); clear b2))
    go_ret
    exact ⟨rfl, unhide B2⟩
end Go.Proofs.YtjclojeihjgnkaaDoor
