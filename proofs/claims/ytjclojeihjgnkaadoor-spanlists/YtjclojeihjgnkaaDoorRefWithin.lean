/- What the document's within and Cover answer. -/
import Derived.Test.YtjclojeihjgnkaaDoorMemI
namespace Go.Proofs.YtjclojeihjgnkaaDoor
open Go.RowKit

theorem OwnK.lit (B : Nat) (w : World) (l i : Nat) (hB : B ≤ w.heap.size) : OwnK encP 23 2 B (w.alloc (.cells #[.int .i64 l, .int .i64 i] 23)) (some ⟨w.heap.size, 0, none⟩) 1 [(l, i)] := by
  have e : (Sort.flatK encP 2 [(l, i)].toArray).toList = [.int .i64 (l : Int), .int .i64 (i : Int)] := by
    have h0 := flat_at (enc := encP) (k := 2) (l := [(l, i)]) (j := 0) (x := (l, i)) rfl 0 (by omega)
    have h1 := flat_at (enc := encP) (k := 2) (l := [(l, i)]) (j := 0) (x := (l, i)) rfl 1 (by omega)
    have hl : (Sort.flatK encP 2 [(l, i)].toArray).toList.length = 2 := by simp
    apply List.ext_getElem?
    intro j
    match j with
    | 0 => exact h0
    | 1 => exact h1
    | j + 2 => rw [List.getElem?_eq_none (by omega), List.getElem?_eq_none (by simp)]
  unfold OwnK
  rw [e]
  exact World.ownsRow_lit w #[.int .i64 (l : Int), .int .i64 (i : Int)] 1 hB (by unfold maxLen; omega) rfl

theorem wi_len (L I lo hi : Nat) (h : okN L I) (hl : lo ≤ hi) (hh : hi < 4294967296) : (wi L I lo hi).length ≤ 62 := by
  obtain ⟨hb, _, _⟩ := okN_bound h
  rw [wi_cover lo hi hl L I hb]
  apply cover_len
  have e32 : (2 : Nat) ^ 32 = 4294967296 := by decide
  omega

def WiP (L : Nat) : Prop := ∀ (I lo hi : Nat) (x y : Int) (w : World), okN L I → lo ≤ hi → hi < 4294967296 → (lo : Int) = x + 2147483648 → (hi : Int) = y + 2147483648 →
  Calls Tryd.prog 33 #[.agg #[.int .i64 L, .int .i64 I], .int .i64 x, .int .i64 y] w fun e w' => ∃ q cap, e = .returned (.slice q (wi L I lo hi).length cap) ∧ OwnK encP 23 2 w.heap.size w' q cap (wi L I lo hi) ∧ Below w.heap.size w w'

set_option maxHeartbeats 1000000 in
theorem within_leaf (L I lo hi : Nat) (x y : Int) (w : World) (hok : okN L I) (_hl : lo ≤ hi) (_hh : hi < 4294967296) (ex : (lo : Int) = x + 2147483648) (ey : (hi : Int) = y + 2147483648)
    (hc : (I * 2 ^ L + 2 ^ L ≤ lo ∨ hi < I * 2 ^ L) ∨ (lo ≤ I * 2 ^ L ∧ I * 2 ^ L + 2 ^ L ≤ hi + 1)) :
    Calls Tryd.prog 33 #[.agg #[.int .i64 L, .int .i64 I], .int .i64 x, .int .i64 y] w fun e w' => ∃ q cap, e = .returned (.slice q (wi L I lo hi).length cap) ∧ OwnK encP 23 2 w.heap.size w' q cap (wi L I lo hi) ∧ Below w.heap.size w w' := by
  have h11 := rbounds_good L I hok
  obtain ⟨hb1, hb2, hb3⟩ := okN_bound hok
  have dA : loS L I = -2147483648 + ((I * 2 ^ L : Nat) : Int) := rfl
  have dB : hiS L I = -2147483648 + ((I * 2 ^ L : Nat) : Int) + ((2 ^ L : Nat) : Int) - 1 := rfl
  obtain ⟨A, hA⟩ : ∃ A, loS L I = A := ⟨_, rfl⟩
  obtain ⟨B, hB⟩ : ∃ B, hiS L I = B := ⟨_, rfl⟩
  rw [hA, hB] at h11
  rw [hA] at dA
  rw [hB] at dB
  by_cases hd : I * 2 ^ L + 2 ^ L ≤ lo ∨ hi < I * 2 ^ L
  · have e : wi L I lo hi = [] := by
      cases L with
      | zero => simp only [Nat.pow_zero, Nat.mul_one] at hd; simp only [wi]; rw [if_pos (by omega)]
      | succ L => simp only [wi]; rw [if_pos hd]
    rw [e]
    by_cases c1 : B < x
    · clear e hA hB dA dB hc hd
      go_enter Tryd.func33, Tryd.ntmps33
      go_wp2_with (go_at_call 11; refine (h11 _).mono ?_; rintro e w1 ⟨rfl, b1⟩; obtain ⟨c0, c1', bel, sz⟩ := box_cells b1)
      go_ret
      exact ⟨none, 0, rfl, OwnK.nil _ _, bel⟩
    · have c2 : y < A := by
        generalize I * 2 ^ L = Q at *
        generalize 2 ^ L = T at *
        omega
      clear e hA hB dA dB hc hd
      go_enter Tryd.func33, Tryd.ntmps33
      go_wp2_with (go_at_call 11; refine (h11 _).mono ?_; rintro e w1 ⟨rfl, b1⟩; obtain ⟨c0, c1', bel, sz⟩ := box_cells b1)
      go_ret
      exact ⟨none, 0, rfl, OwnK.nil _ _, bel⟩
  · have hc2 := hc.resolve_left hd
    have e : wi L I lo hi = [(L, I)] := by
      cases L with
      | zero => simp only [Nat.pow_zero, Nat.mul_one] at hd; simp only [wi]; rw [if_neg (by omega)]
      | succ L => simp only [wi]; rw [if_neg hd, if_pos hc2]
    rw [e]
    have c1 : ¬ B < x := by
      generalize I * 2 ^ L = Q at *
      generalize 2 ^ L = T at *
      omega
    have c2 : ¬ y < A := by
      generalize I * 2 ^ L = Q at *
      generalize 2 ^ L = T at *
      omega
    have c3 : x ≤ A := by
      generalize I * 2 ^ L = Q at *
      generalize 2 ^ L = T at *
      omega
    have c4 : B ≤ y := by
      generalize I * 2 ^ L = Q at *
      generalize 2 ^ L = T at *
      omega
    clear e hA hB dA dB hc hc2 hd
    go_enter Tryd.func33, Tryd.ntmps33
    go_wp2_with (go_at_call 11; refine (h11 _).mono ?_; rintro e w1 ⟨rfl, b1⟩; obtain ⟨c0, c1', bel, sz⟩ := box_cells b1)
    go_ret
    exact ⟨_, _, rfl, OwnK.lit _ _ _ _ bel.size, bel.alloc bel.size _⟩

set_option maxHeartbeats 1000000 in
theorem within_step (L : Nat) (ih : WiP L) : WiP (L + 1) := fun I lo hi x y w hok hl hh ex ey => by
    by_cases hc : (I * 2 ^ (L + 1) + 2 ^ (L + 1) ≤ lo ∨ hi < I * 2 ^ (L + 1)) ∨ (lo ≤ I * 2 ^ (L + 1) ∧ I * 2 ^ (L + 1) + 2 ^ (L + 1) ≤ hi + 1)
    · exact within_leaf (L + 1) I lo hi x y w hok hl hh ex ey hc
    · have hd : ¬ (I * 2 ^ (L + 1) + 2 ^ (L + 1) ≤ lo ∨ hi < I * 2 ^ (L + 1)) := fun h => hc (Or.inl h)
      have hcn : ¬ (lo ≤ I * 2 ^ (L + 1) ∧ I * 2 ^ (L + 1) + 2 ^ (L + 1) ≤ hi + 1) := fun h => hc (Or.inr h)
      have e : wi (L + 1) I lo hi = wi L (2 * I) lo hi ++ wi L (2 * I + 1) lo hi := by simp only [wi]; rw [if_neg hd, if_neg hcn]
      have hlen := wi_len (L + 1) I lo hi hok hl hh
      rw [e, List.length_append] at hlen
      rw [e, List.length_append]
      obtain ⟨k, hk, hIk⟩ := hok
      have ok1 : okN L (2 * I) := ⟨k + 1, by omega, by rw [Nat.pow_succ]; omega⟩
      have ok2 : okN L (2 * I + 1) := ⟨k + 1, by omega, by rw [Nat.pow_succ]; omega⟩
      have i1 := fun w => ih (2 * I) lo hi x y w ok1 hl hh ex ey
      have i2 := fun w => ih (2 * I + 1) lo hi x y w ok2 hl hh ex ey
      have h11 := rbounds_good (L + 1) I ⟨k, hk, hIk⟩
      obtain ⟨hb1, hb2, hb3⟩ := okN_bound (l := L + 1) (i := I) ⟨k, hk, hIk⟩
      have hI4 : I ≤ 4294967296 := by
        have : I * 1 ≤ I * 2 ^ (L + 1) := Nat.mul_le_mul_left _ hb2
        rw [Nat.mul_one] at this
        exact Nat.le_trans this (Nat.le_trans (Nat.le_add_right _ _) hb1)
      have dA : loS (L + 1) I = -2147483648 + ((I * 2 ^ (L + 1) : Nat) : Int) := rfl
      have dB : hiS (L + 1) I = -2147483648 + ((I * 2 ^ (L + 1) : Nat) : Int) + ((2 ^ (L + 1) : Nat) : Int) - 1 := rfl
      obtain ⟨A, hA⟩ : ∃ A, loS (L + 1) I = A := ⟨_, rfl⟩
      obtain ⟨B, hB⟩ : ∃ B, hiS (L + 1) I = B := ⟨_, rfl⟩
      rw [hA, hB] at h11
      rw [hA] at dA
      rw [hB] at dB
      generalize I * 2 ^ (L + 1) = Q at *
      generalize 2 ^ (L + 1) = T at *
      have c1 : ¬ B < x := by omega
      have c2 : ¬ y < A := by omega
      obtain ⟨m1, hm1⟩ : ∃ m1, wi L (2 * I) lo hi = m1 := ⟨_, rfl⟩
      obtain ⟨m2, hm2⟩ : ∃ m2, wi L (2 * I + 1) lo hi = m2 := ⟨_, rfl⟩
      rw [hm1] at i1 hlen ⊢
      rw [hm2] at i2 hlen ⊢
      obtain ⟨n1, hn1⟩ : ∃ n1, m1.length = n1 := ⟨_, rfl⟩
      obtain ⟨n2, hn2⟩ : ∃ n2, m2.length = n2 := ⟨_, rfl⟩
      rw [hn1] at i1 hlen ⊢
      rw [hn2] at i2 hlen ⊢
      obtain ⟨L1, hL1⟩ : ∃ L1 : Nat, L + 1 = L1 := ⟨_, rfl⟩
      obtain ⟨I2, hI2⟩ : ∃ I2 : Nat, 2 * I = I2 := ⟨_, rfl⟩
      obtain ⟨I3, hI3⟩ : ∃ I3 : Nat, I2 + 1 = I3 := ⟨_, rfl⟩
      rw [hL1] at h11 ⊢
      rw [hI2] at i1 i2
      rw [hI3] at i2
      have eL : IntKind.i64.wrap ((L1 : Int) - 1) = (L : Int) := by rw [IntKind.wrap_i64]; omega
      have eI : IntKind.i64.wrap (2 * (I : Int)) = (I2 : Int) := by rw [IntKind.wrap_i64]; omega
      have eJ : IntKind.i64.wrap ((I2 : Int) + 1) = (I3 : Int) := by rw [IntKind.wrap_i64]; omega
      have c34 : x ≤ A → ¬ B ≤ y := by omega
      have HN := hide (And.intro hn1 hn2)
      clear hc hd hcn e ok1 ok2 hA hB dA dB hm1 hm2 hn1 hn2 hL1 hI2 hI3 hIk hk hb1 hb2
      by_cases c3 : x ≤ A
      · have c4 := c34 c3
        clear c34
        go_enter Tryd.func33, Tryd.ntmps33
        go_wp2_with (first
          | (go_at_call 11; refine (h11 _).mono ?_; rintro e w1 ⟨rfl, b1⟩; obtain ⟨x0, x1, bel, sz⟩ := box_cells b1; have R1 := hide bel; clear b1 bel)
          | (go_at_call 33; (with_reducible refine (i1 _).mono ?_); rintro e w2 ⟨q2, cap2, rfl, o2, b2⟩; have y0 := (b2.cell (p := ⟨w.heap.size, 0, none⟩) (by exact sz)).trans x0; have y1 := (b2.cell (p := ⟨w.heap.size, 1, none⟩) (by exact sz)).trans x1; have O2 := hide (o2.mono (unhide R1).size); have R2 := hide (below_sub (unhide R1) b2); clear b2 o2 x0 x1)
          | (go_at_call 33; (with_reducible refine (i2 _).mono ?_); rintro e w3 ⟨q3, cap3, rfl, o3, b3⟩; have O3 := hide o3; have O2' := hide ((unhide O2).below b3); have R3 := hide (below_sub (unhide R2) b3); clear b3 o3)
          | (at_builtin; refine wpList_app rowP rfl _ _ rfl w.heap.size q2 cap2 m1 q3 cap3 m2 n1 n2 (n1 + n2) (unhide HN).1 (unhide HN).2 rfl rfl rfl (unhide O2') (unhide O3).ls.src (by unfold maxLen; omega) (by omega) (unhide R3).size ?_; intro q4 cap4 w4 o4 b4 _ _))
        go_ret
        exact ⟨q4, cap4, rfl, o4, (unhide R3).trans b4⟩
      · clear c34
        go_enter Tryd.func33, Tryd.ntmps33
        go_wp2_with (first
          | (go_at_call 11; refine (h11 _).mono ?_; rintro e w1 ⟨rfl, b1⟩; obtain ⟨x0, x1, bel, sz⟩ := box_cells b1; have R1 := hide bel; clear b1 bel)
          | (go_at_call 33; (with_reducible refine (i1 _).mono ?_); rintro e w2 ⟨q2, cap2, rfl, o2, b2⟩; have y0 := (b2.cell (p := ⟨w.heap.size, 0, none⟩) (by exact sz)).trans x0; have y1 := (b2.cell (p := ⟨w.heap.size, 1, none⟩) (by exact sz)).trans x1; have O2 := hide (o2.mono (unhide R1).size); have R2 := hide (below_sub (unhide R1) b2); clear b2 o2 x0 x1)
          | (go_at_call 33; (with_reducible refine (i2 _).mono ?_); rintro e w3 ⟨q3, cap3, rfl, o3, b3⟩; have O3 := hide o3; have O2' := hide ((unhide O2).below b3); have R3 := hide (below_sub (unhide R2) b3); clear b3 o3)
          | (at_builtin; refine wpList_app rowP rfl _ _ rfl w.heap.size q2 cap2 m1 q3 cap3 m2 n1 n2 (n1 + n2) (unhide HN).1 (unhide HN).2 rfl rfl rfl (unhide O2') (unhide O3).ls.src (by unfold maxLen; omega) (by omega) (unhide R3).size ?_; intro q4 cap4 w4 o4 b4 _ _))
        go_ret
        exact ⟨q4, cap4, rfl, o4, (unhide R3).trans b4⟩
theorem within_any : ∀ L, WiP L
  | 0 => fun I lo hi x y w hok hl hh ex ey => within_leaf 0 I lo hi x y w hok hl hh ex ey (by simp only [Nat.pow_zero, Nat.mul_one]; omega)
  | L + 1 => within_step L (within_any L)

theorem wi_top (P R : Nat) (h0 : 0 < R) (hb : P + R ≤ 4294967296) : wi 32 0 P (P + R - 1) = cover P R := by
  have e32 : (2 : Nat) ^ 32 = 4294967296 := by decide
  rw [wi_cover P (P + R - 1) (by omega) 32 0 (by rw [Nat.zero_mul, Nat.zero_add]; exact Nat.le_refl _), e32]
  have e1 : max (0 * 4294967296) P = P := by omega
  have e2 : min (0 * 4294967296 + 4294967296) (P + R - 1 + 1) - P = R := by omega
  rw [e1, e2]

theorem rcover_any (lo hi : Int) (w : World) :
    Calls Tryd.prog 25 #[.int .i64 lo, .int .i64 hi] w fun e w' => ∃ q cap, e = .returned (.slice q (coverZ lo hi).length cap) ∧ OwnK encP 23 2 w.heap.size w' q cap (coverZ lo hi) ∧ Below w.heap.size w w' := by
  by_cases hxy : max lo (-2147483648) ≤ min hi 2147483647
  · have ecov : coverZ lo hi = cover (max lo (-2147483648) + 2147483648).toNat (min hi 2147483647 - max lo (-2147483648) + 1).toNat := rfl
    obtain ⟨x0, hx⟩ : ∃ x0, max lo (-2147483648) = x0 := ⟨_, rfl⟩
    obtain ⟨y0, hy⟩ : ∃ y0, min hi 2147483647 = y0 := ⟨_, rfl⟩
    rw [hx, hy] at ecov hxy
    have hx1 : -2147483648 ≤ x0 := by omega
    have hy1 : y0 ≤ 2147483647 := by omega
    obtain ⟨P0, hP⟩ : ∃ P0, (x0 + 2147483648).toNat = P0 := ⟨_, rfl⟩
    obtain ⟨R, hR⟩ : ∃ R, (y0 - x0 + 1).toNat = R := ⟨_, rfl⟩
    rw [hP, hR] at ecov
    have h33 : ∀ w, Calls Tryd.prog 33 #[.agg #[.int .i64 32, .int .i64 0], .int .i64 x0, .int .i64 y0] w fun e w' => ∃ q cap, e = .returned (.slice q (coverZ lo hi).length cap) ∧ OwnK encP 23 2 w.heap.size w' q cap (coverZ lo hi) ∧ Below w.heap.size w w' := fun w => by
      have h := within_any 32 0 P0 (P0 + R - 1) x0 y0 w ⟨0, rfl, by decide⟩ (by omega) (by omega) (by omega) (by omega)
      rw [wi_top P0 R (by omega) (by omega), ← ecov] at h
      exact h
    obtain ⟨cv, hcv⟩ : ∃ cv, coverZ lo hi = cv := ⟨_, rfl⟩
    rw [hcv] at h33 ⊢
    obtain ⟨n, hn⟩ : ∃ n, cv.length = n := ⟨_, rfl⟩
    rw [hn] at h33 ⊢
    clear ecov hcv hn hP hR
    go_enter Tryd.func25, Tryd.ntmps25
    go_wp2_with (go_at_call 33; refine (h33 _).mono ?_; rintro e w1 ⟨q, cap, rfl, o1, b1⟩)
    go_ret
    exact ⟨q, cap, rfl, o1, b1⟩
  · rw [covZ_none hxy]
    obtain ⟨x0, hx⟩ : ∃ x0, max lo (-2147483648) = x0 := ⟨_, rfl⟩
    obtain ⟨y0, hy⟩ : ∃ y0, min hi 2147483647 = y0 := ⟨_, rfl⟩
    rw [hx, hy] at hxy
    go_enter Tryd.func25, Tryd.ntmps25
    go_wp2
    go_ret
    exact ⟨none, 0, rfl, OwnK.nil _ _, Below.refl _ _⟩
end Go.Proofs.YtjclojeihjgnkaaDoor
