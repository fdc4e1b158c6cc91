/- The reference's Sum and Product, and the law PushSums. -/
import Derived.Test.YtppkjlmdfcifgaaPushFixed
import Derived.Test.YtppkjlmdfcifgaaKept
namespace Go.Proofs.Ytppkjlmdfcifgaa
open Go.RowKit Go.Sort

theorem bound_any (m : Int) (w : World) : Calls Try.prog 100 #[.int .i64 m] w fun e w' => e = .returned (.int .i64 (bnd m)) ∧ w' = w := by
  go_enter Try.func100, Try.ntmps100
  go_wp2
  go_ret
  exact ⟨by simp [bnd], rfl⟩
set_option maxHeartbeats 4000000 in
theorem refSum_any (m : Int) (q : Option Addr) (c : Nat) (l : List Int) (w : World) (h : SlOf encI 1 w q c l) (hl : l.length ≤ 1000000000000000000) :
    Calls Try.prog 45 #[.int .i64 m, .slice q l.length c] w fun e w' => e = .returned (.int .i64 (sumB m l)) ∧ Below w.heap.size w w' := by
  have HA := hide h
  have a0 : (l.length : Int) ≤ 1000000000000000000 := by omega
  have hb := fun w => bound_any m w
  have h0 := bnd_ge m
  have h1 := bnd_le m
  unfold sumB
  obtain ⟨M, hM⟩ : ∃ M, bnd m = M := ⟨_, rfl⟩
  rw [hM] at hb h0 h1
  rw [hM]
  clear h hM
  go_enter Try.func45, Try.ntmps45
  go_wp2_with (go_at_call 100; refine (hb _).mono ?_; rintro e w2 ⟨rfl, hw2⟩; subst hw2)
  go_loopw [6, 7] (fun sv i wr => ∃ (k : Nat) (s : Int), k ≤ l.length ∧ i = .int .i64 k ∧ sv = .int .i64 s ∧ 0 ≤ s ∧ s ≤ M ∧ sumGo M (l.drop k) s = sumGo M l 0 ∧ Below w2.heap.size w2 wr) (fun _ i _ => l.length - (intOf i).toNat)
  case atStart => exact ⟨0, 0, by omega, rfl, rfl, Int.le_refl _, h0, rfl, Below.refl _ _⟩
  case round =>
    obtain ⟨k, s, hk, rfl, rfl, s0, s1, heq, hbel⟩ := hrel
    have HB := hide hbel
    by_cases hlt : k < l.length
    · obtain ⟨x, hx, hxd⟩ := get_at hlt
      obtain ⟨b, off, hq, hb, hc⟩ := intsAt (unhide HA) hx
      subst hq
      have g := (hbel.cell (p := ⟨b, off + k, none⟩) hb).trans hc
      have ki0 : (0 : Int) ≤ (k : Int) := by omega
      have ki1 : (k : Int) < (l.length : Int) := by omega
      rw [hxd] at heq
      have w1 : IntKind.i64.wrap (M - s) = M - s := wrap_of _ (by omega) (by omega)
      obtain ⟨X, hX⟩ : ∃ X, max x 0 = X := ⟨_, rfl⟩
      by_cases hgt : M - s < x
      · have hgt2 : M - s < X := by omega
        simp only [sumGo, if_pos hgt] at heq
        have w2 : IntKind.i64.wrap (M + 1) = M + 1 := wrap_of _ (by omega) (by omega)
        have HE := hide heq
        clear heq hbel hxd hx hc hgt
        go_wp2
        go_ret
        exact ⟨by rw [← unhide HE]; rfl, unhide HB⟩
      · have hgt2 : ¬ M - s < X := by omega
        simp only [sumGo, if_neg hgt, hX] at heq
        have w2 : IntKind.i64.wrap (s + X) = s + X := wrap_of _ (by omega) (by omega)
        have HE := hide heq
        have x0 : 0 ≤ X := by omega
        clear heq hbel hxd hx hc hgt
        go_wp2
        go_roundw
        case rel => exact ⟨k + 1, s + X, by omega, by go_num, rfl, by omega, by omega, unhide HE, unhide HB⟩
        case measure => simp [intOf]; omega
    · have ki1 : ¬ (k : Int) < (l.length : Int) := by omega
      rw [List.drop_of_length_le (by omega)] at heq
      have HE := hide heq
      clear heq hbel
      go_wp2
      go_ret
      exact ⟨by rw [← unhide HE]; rfl, unhide HB⟩
theorem div_swap {M p x : Int} (hM : 0 ≤ M) (hp : 1 ≤ p) (hx : 1 ≤ x) : (M.tdiv p < x) ↔ (M.tdiv x < p) := by
  rw [Int.tdiv_eq_ediv_of_nonneg hM, Int.tdiv_eq_ediv_of_nonneg hM, Int.ediv_lt_iff_lt_mul (by omega), Int.ediv_lt_iff_lt_mul (by omega), Int.mul_comm]
set_option maxHeartbeats 8000000 in
theorem refProd_any (m : Int) (q : Option Addr) (c : Nat) (l : List Int) (w : World) (h : SlOf encI 1 w q c l) (hl : l.length ≤ 1000000000000000000) :
    Calls Try.prog 47 #[.int .i64 m, .slice q l.length c] w fun e w' => e = .returned (.int .i64 (prodB m l)) ∧ Below w.heap.size w w' := by
  have HA := hide h
  have a0 : (l.length : Int) ≤ 1000000000000000000 := by omega
  have hb := fun w => bound_any m w
  have h0 := bnd_ge m
  have h1 := bnd_le m
  obtain ⟨M, hM⟩ : ∃ M, bnd m = M := ⟨_, rfl⟩
  obtain ⟨Q, hQ⟩ : ∃ Q, prodB m l = Q := ⟨_, rfl⟩
  rw [hQ]
  unfold prodB at hQ
  rw [hM] at hb h0 h1 hQ
  have HQ := hide hQ
  clear h hM hQ
  go_enter Try.func47, Try.ntmps47
  go_wp2_with (go_at_call 100; refine (hb _).mono ?_; rintro e w2 ⟨rfl, hw2⟩; subst hw2)
  clear hb
  go_loopw [6] (fun i wr => ∃ k : Nat, k ≤ l.length ∧ i = .int .i64 k ∧ (∀ (j : Nat) (x : Int), j < k → l[j]? = some x → 0 < x) ∧ Below w2.heap.size w2 wr) (fun i _ => l.length - (intOf i).toNat)
  case atStart => exact ⟨0, by omega, rfl, fun j x h => absurd h (by omega), Below.refl _ _⟩
  case round =>
    obtain ⟨k, hk, rfl, hall, hbel⟩ := hrel
    have HALL := hide hall
    have HB := hide hbel
    by_cases hlt : k < l.length
    · obtain ⟨x, hx, hxd⟩ := get_at hlt
      obtain ⟨b, off, hq, hb, hc⟩ := intsAt (unhide HA) hx
      subst hq
      have g := (hbel.cell (p := ⟨b, off + k, none⟩) hb).trans hc
      have ki0 : (0 : Int) ≤ (k : Int) := by omega
      have ki1 : (k : Int) < (l.length : Int) := by omega
      have HX := hide hx
      by_cases hx0 : x ≤ 0
      · clear hall hbel hxd hx hc
        go_wp2
        go_ret
        have : l.any (fun x => decide (x ≤ 0)) = true := List.any_eq_true.2 ⟨x, List.mem_of_getElem? (unhide HX), by simp [hx0]⟩
        have hq := unhide HQ
        rw [this] at hq
        exact ⟨by rw [← hq]; rfl, unhide HB⟩
      · clear hall hbel hxd hx hc
        go_wp2
        go_roundw
        case rel =>
          refine ⟨k + 1, by omega, by go_num, fun j y hj hy => ?_, unhide HB⟩
          by_cases e : j = k
          · subst e; rw [unhide HX] at hy; cases hy; omega
          · exact unhide HALL j y (by omega) hy
        case measure => simp [intOf]; omega
    · have ki1 : ¬ (k : Int) < (l.length : Int) := by omega
      have hany : l.any (fun x => decide (x ≤ 0)) = false := by
        rw [List.any_eq_false]
        intro x hx
        obtain ⟨j, hj⟩ := List.getElem?_of_mem hx
        have := unhide HALL j x (by have := (List.getElem?_eq_some_iff.1 hj).1; omega) hj
        simp; omega
      have HP := hide (show ∀ (j : Nat) (x : Int), l[j]? = some x → 0 < x from fun j x hj => unhide HALL j x (by have := (List.getElem?_eq_some_iff.1 hj).1; omega) hj)
      have HQ2 := hide (show prodGo M l 1 = Q by have := unhide HQ; rw [hany] at this; simpa using this)
      clear hall hbel hany hk hlt HALL HQ
      by_cases hM0 : M = 0
      · subst hM0
        have HE := hide (show prodGo 0 l 1 = 1 by
          cases l with
          | nil => rfl
          | cons x l =>
            have hx := unhide HP 0 x rfl
            have : (0 : Int).tdiv x = 0 := Int.zero_tdiv x
            simp [prodGo, this])
        go_wp2
        go_ret
        exact ⟨by rw [← unhide HQ2, unhide HE]; rfl, unhide HB⟩
      · have m1 : 1 ≤ M := by omega
        have e0 : (M == 0) = false := by simp [hM0]
        obtain ⟨V, rfl⟩ : ∃ V, V = wr := ⟨_, rfl⟩
        go_wp2
        go_loopw [7, 8] (fun pv i wr => ∃ (k : Nat) (p : Int), k ≤ l.length ∧ i = .int .i64 k ∧ pv = .int .i64 p ∧ 1 ≤ p ∧ p ≤ M ∧ prodGo M (l.drop k) p = prodGo M l 1 ∧ Below w2.heap.size w2 wr) (fun _ i _ => l.length - (intOf i).toNat)
        case atStart => exact ⟨0, 1, by omega, rfl, rfl, Int.le_refl _, by omega, rfl, unhide HB⟩
        case round =>
          obtain ⟨k, p, hk, rfl, rfl, s0, s1, heq, hbel⟩ := hrel
          have HB2 := hide hbel
          by_cases hlt : k < l.length
          · obtain ⟨x, hx, hxd⟩ := get_at hlt
            obtain ⟨b, off, hq, hb, hc⟩ := intsAt (unhide HA) hx
            subst hq
            have g := (hbel.cell (p := ⟨b, off + k, none⟩) hb).trans hc
            have ki0 : (0 : Int) ≤ (k : Int) := by omega
            have ki2 : (k : Int) < (l.length : Int) := by omega
            rw [hxd] at heq
            have x0 := unhide HP k x hx
            have pn : ¬ p = 0 := by omega
            obtain ⟨D, hD⟩ : ∃ D, M.tdiv p = D := ⟨_, rfl⟩
            have D0 : 0 ≤ D ∧ D ≤ M := by
              rw [← hD, Int.tdiv_eq_ediv_of_nonneg h0]
              exact ⟨Int.ediv_nonneg h0 (by omega), Int.ediv_le_self p h0⟩
            have hsw := div_swap (p := p) (x := x) h0 s0 (by omega)
            rw [hD] at hsw
            have w1 : IntKind.i64.wrap D = D := wrap_of _ (by omega) (by omega)
            by_cases hgt : D < x
            · have hg2 := hsw.1 hgt
              simp only [prodGo, if_pos hg2] at heq
              have w2 : IntKind.i64.wrap (M + 1) = M + 1 := wrap_of _ (by omega) (by omega)
              have HE := hide heq
              clear heq hbel hxd hx hc hsw hg2
              go_wp2
              go_region
              go_wp2
              go_ret
              exact ⟨by rw [← unhide HQ2, ← unhide HE]; rfl, (unhide HB2).drew⟩
            · have hg2 : ¬ M.tdiv x < p := fun h => hgt (hsw.2 h)
              have hps := prod_step h0 s0 x0 hg2
              simp only [prodGo, if_neg hg2] at heq
              obtain ⟨Z, hZ⟩ : ∃ Z, p * x = Z := ⟨_, rfl⟩
              rw [hZ] at hps heq
              have w2 : IntKind.i64.wrap Z = Z := wrap_of _ (by omega) (by omega)
              have HE := hide heq
              clear heq hbel hxd hx hc hsw hg2
              go_wp2
              go_region
              go_wp2
              go_roundw
              case rel => exact ⟨k + 1, Z, by omega, by go_num, rfl, by omega, by omega, unhide HE, (unhide HB2).drew⟩
              case measure => simp [intOf]; omega
          · have ki2 : ¬ (k : Int) < (l.length : Int) := by omega
            rw [List.drop_of_length_le (by omega)] at heq
            have HE := hide heq
            clear heq hbel
            go_wp2
            go_ret
            exact ⟨by rw [← unhide HQ2, ← unhide HE]; rfl, unhide HB2⟩
set_option maxRecDepth 100000 in
set_option maxHeartbeats 4000000 in
theorem pushSums_any (m : Int) (q : Option Addr) (c : Nat) (l : List Int) (w : World) (h : SlOf encI 1 w q c l) (hl : l.length * 8 + 64 ≤ 140737488355328) :
    Calls Try.prog 6 #[.int .i64 m, .slice q l.length c] w fun e w' => e = .returned (.bool true) ∧ Below w.heap.size w w' := by
  have hfx := fixed7_any w
  have HA := hide h
  have hI := fun (W : World) (hW : Below w.heap.size w W) => memI q c l W (h.below hW) hl
  have hS := fun (q' : Option Addr) (c' : Nat) (W : World) (h : SlOf encI 1 W q' c' l) => sum_any m q' c' l W h (by omega)
  have hP := fun (q' : Option Addr) (c' : Nat) (W : World) (h : SlOf encI 1 W q' c' l) => prod_any m q' c' l W h (by omega)
  have hRS := fun (W : World) (hW : Below w.heap.size w W) => refSum_any m q c l W (h.below hW) (by omega)
  have hRP := fun (W : World) (hW : Below w.heap.size w W) => refProd_any m q c l W (h.below hW) (by omega)
  have hK := fun (g cp : Nat) (W : World) (hW : Below w.heap.size w W) (hN : LsOf encI 1 W (some ⟨g, 0, none⟩) (l ++ spI)) (hc : l.length + 2 ≤ cp) (hcm : cp ≤ maxLen) => keptI g cp q c l W (by omega) hN hc hcm (h.below hW)
  obtain ⟨S, hSS⟩ : ∃ S, sumB m l = S := ⟨_, rfl⟩
  obtain ⟨Q, hQQ⟩ : ∃ Q, prodB m l = Q := ⟨_, rfl⟩
  rw [hSS] at hS hRS
  rw [hQQ] at hP hRP
  have eS : (S == S) = true := by simp
  have eQ : (Q == Q) = true := by simp
  clear h hSS hQQ
  go_enter Try.func6, Try.ntmps6
  go_wp2_with (first
    | (go_at_call 35; refine hfx.mono ?_; rintro e w1 ⟨rfl, b1⟩; have B1 := hide b1; clear b1)
    | (go_at_call 43; refine (hI _ (unhide B1)).mono ?_; rintro e w2 ⟨⟨g, cp, rfl, o2, r2⟩, b2⟩; have z2 := o2.ls.2.2.1; have SL := hide (show SlOf encI 1 w2 (some ⟨g, 0, none⟩) cp l from ⟨(fun h => by cases h), by omega, z2, o2.ls.2.2.2.take (by decide)⟩); have LS := hide o2.ls.2.2.2; have B2 := hide (below_sub (unhide B1) b2); clear o2 b2)
    | (go_at_call 44; refine (hS _ _ _ (unhide SL)).mono ?_; rintro e w3 ⟨rfl, b3⟩; have R3 := hide b3; have B3 := hide (below_sub (unhide B2) b3); clear b3)
    | (go_at_call 45; refine (hRS _ (unhide B3)).mono ?_; rintro e w4 ⟨rfl, b4⟩; have R4 := hide (below_sub (unhide R3) b4); have B4 := hide (below_sub (unhide B3) b4); clear b4)
    | (go_at_call 46; refine (hP _ _ _ ((unhide SL).below (unhide R4))).mono ?_; rintro e w5 ⟨rfl, b5⟩; have R5 := hide (below_sub (unhide R4) b5); have B5 := hide (below_sub (unhide B4) b5); clear b5)
    | (go_at_call 47; refine (hRP _ (unhide B5)).mono ?_; rintro e w6 ⟨rfl, b6⟩; have R6 := hide (below_sub (unhide R5) b6); have B6 := hide (below_sub (unhide B5) b6); clear b6)
    | (go_at_call 48; refine (hK _ _ _ (unhide B6) ((unhide LS).below (unhide R6)) r2 z2).mono ?_; rintro e w7 ⟨rfl, b7⟩; have B7 := hide (below_sub (unhide B6) b7); clear b7))
  go_ret
  exact ⟨ret_bool (by simp), unhide B7⟩
end Go.Proofs.Ytppkjlmdfcifgaa
