/- The reader in memory: varints. -/
import Derived.Test.YtfigjfmldpfjkaaGreatZae
namespace Go.Proofs.YtfigjfmldpfjkaaGreat
open Go.RowKit Go.Sort

theorem i64_or (a b : Nat) (ha : a < 4611686018427387904) (hb : b < 4611686018427387904) : bits .or .i64 (a : Int) (b : Int) = ((a ||| b : Nat) : Int) := by
  have hx : a ||| b < 2 ^ 62 := Nat.or_lt_two_pow (by omega) (by omega)
  show IntKind.i64.wrap ((BitVec.ofInt 64 (a : Int) ||| BitVec.ofInt 64 (b : Int)).toNat : Int) = _
  rw [BitVec.toNat_or, BitVec.ofInt_natCast, BitVec.ofInt_natCast, BitVec.toNat_ofNat, BitVec.toNat_ofNat, Nat.mod_eq_of_lt (by omega), Nat.mod_eq_of_lt (by omega)]
  exact wrap_nat _ (by omega)
theorem or_add {n x i : Nat} (h : n < 2 ^ i) : n ||| x * 2 ^ i = n + x * 2 ^ i := by
  have := Nat.two_pow_add_eq_or_of_lt h x
  rw [Nat.or_comm, Nat.mul_comm, ← this, Nat.add_comm]
theorem and127 (y : UInt8) : bits .and .u8 (y.toNat : Int) 127 = ((y.toNat % 128 : Nat) : Int) := by
  have := u8_and_nat y.toNat 127 (by have := y.toNat_lt; omega) (by omega)
  rw [show y.toNat &&& 127 = y.toNat % 128 from Nat.and_two_pow_sub_one_eq_mod y.toNat 7] at this
  exact this
/-- A varint is read. -/
def varS (l : List UInt8) : Nat → Nat → Nat → Nat → Bool → Nat × Nat × Bool
  | 0, _, _, a, _ => (0, a, true)
  | f + 1, i, n, a, t =>
    if (st1 l a t).1.toNat < 128 then (n + (st1 l a t).1.toNat % 128 * 2 ^ (7 * i), (st1 l a t).2.1, (st1 l a t).2.2 || !(decide (0 < (st1 l a t).1.toNat) || decide (i = 0)))
    else varS l f (i + 1) (n + (st1 l a t).1.toNat % 128 * 2 ^ (7 * i)) (st1 l a t).2.1 (st1 l a t).2.2
theorem varS_last (l : List UInt8) (f i n a : Nat) (t : Bool) (h : (st1 l a t).1.toNat < 128) : varS l (f + 1) i n a t = (n + (st1 l a t).1.toNat % 128 * 2 ^ (7 * i), (st1 l a t).2.1, (st1 l a t).2.2 || !(decide (0 < (st1 l a t).1.toNat) || decide (i = 0))) := by rw [varS, if_pos h]
theorem varS_more (l : List UInt8) (f i n a : Nat) (t : Bool) (h : ¬ (st1 l a t).1.toNat < 128) : varS l (f + 1) i n a t = varS l f (i + 1) (n + (st1 l a t).1.toNat % 128 * 2 ^ (7 * i)) (st1 l a t).2.1 (st1 l a t).2.2 := by rw [varS, if_neg h]

set_option maxRecDepth 100000 in
set_option maxHeartbeats 4000000 in
theorem varint_any (g : Nat) (q : Option Addr) (cap : Nat) (l : List UInt8) (a : Nat) (t : Bool) (w : World) (h : Rd w g q cap l a t) (hl : l.length ≤ 1000000000000000) :
    Calls Tryz.prog 108 #[.pointer (some ⟨g, 0, none⟩)] w fun e w' => e = .returned (.int .i64 ((varS l 6 0 0 a t).1 : Int)) ∧ Rd w' g q cap l (varS l 6 0 0 a t).2.1 (varS l 6 0 0 a t).2.2 ∧ w.grownBy w' (some g) := by
  have hone := fun (a : Nat) (t : Bool) (W : World) (H : Rd W g q cap l a t) => one_any g q cap l a t W H hl
  have hnd := fun (a : Nat) (t ok : Bool) (W : World) (H : Rd W g q cap l a t) => need_any g q cap l a t ok W H
  obtain ⟨V, hV⟩ : ∃ V, varS l 6 0 0 a t = V := ⟨_, rfl⟩
  rw [hV]
  have H := hide h
  have HV := hide hV
  clear h hV
  go_enter Tryz.func108, Tryz.ntmps108
  go_wp2
  go_loopw [3, 6] (fun v i wr => ∃ (k n a' : Nat) (t' : Bool), k ≤ 6 ∧ i = .int .i64 (k : Int) ∧ v = .int .i64 (n : Int) ∧ n < 2 ^ (7 * k) ∧ Hid (Rd wr g q cap l a' t') ∧ Hid (varS l (6 - k) k n a' t' = V) ∧ Hid (w.grownBy wr (some g))) (fun _ i _ => 6 - (intOf i).toNat)
  case atStart => exact ⟨0, 0, a, t, by omega, rfl, rfl, by decide, H, HV, hide (grown_refl _ _)⟩
  case round =>
    obtain ⟨k, n, a', t', hk, rfl, rfl, hn, HR, HE, HG⟩ := hrel
    by_cases hk6 : k < 6
    · have h1 := hone a' t' wr (unhide HR)
      have hE := unhide HE
      obtain ⟨f, hf⟩ : ∃ f, 6 - k = f + 1 := ⟨5 - k, by omega⟩
      rw [hf] at hE
      have hl1 := varS_last l f k n a' t'
      have hl2 := varS_more l f k n a' t'
      generalize st1 l a' t' = s at h1 hl1 hl2
      obtain ⟨y, a2, t2⟩ := s
      simp only at h1 hl1 hl2
      have e1 := and127 y
      obtain ⟨x, hx⟩ : ∃ x, y.toNat % 128 = x := ⟨_, rfl⟩
      rw [hx] at e1 hl1 hl2
      have hx1 : x < 128 := by omega
      have hy := y.toNat_lt
      have hpw : n + x * 2 ^ (7 * k) < 2 ^ (7 * (k + 1)) := by
        rw [show 7 * (k + 1) = 7 + 7 * k by omega, Nat.pow_add]
        have : x * 2 ^ (7 * k) ≤ 127 * 2 ^ (7 * k) := Nat.mul_le_mul_right _ (by omega)
        omega
      have hor := or_add (x := x) hn
      have hM : x * 2 ^ (7 * k) < 4611686018427387904 := by
        have : x * 2 ^ (7 * k) ≤ 127 * 2 ^ (7 * k) := Nat.mul_le_mul_right _ (by omega)
        have : 2 ^ (7 * k) ≤ 2 ^ 35 := Nat.pow_le_pow_right (by omega) (by omega)
        omega
      have hnb : n < 4611686018427387904 := by
        have : 2 ^ (7 * k) ≤ 2 ^ 35 := Nat.pow_le_pow_right (by omega) (by omega)
        omega
      have e2 := i64_or n (x * 2 ^ (7 * k)) hnb hM
      rw [hor] at e2
      obtain ⟨N2, hN2⟩ : ∃ N2, n + x * 2 ^ (7 * k) = N2 := ⟨_, rfl⟩
      rw [hN2] at e2 hl1 hl2 hpw
      have HPW := hide hpw
      have hk0 : k = 0 ∨ k = 1 ∨ k = 2 ∨ k = 3 ∨ k = 4 ∨ k = 5 := by omega
      by_cases hyl : y.toNat < 128
      · rw [hl1 hyl] at hE
        have HE2 := hide hE
        have hyi : (y.toNat : Int) < 128 := by omega
        clear hE hl1 hl2 hx HE hf hpw hor hn hM hnb hN2 hy hk hk6
        by_cases hy0 : 0 < y.toNat
        · have hy0i : (0 : Int) < (y.toNat : Int) := by omega
          have hok := hnd a2 t2 true
          rcases hk0 with rfl | rfl | rfl | rfl | rfl | rfl
          · have e3 : bits .or .i64 (n : Int) ((x : Int)) = (N2 : Int) := by
              rw [show x * 2 ^ (7 * 0) = x by simp] at e2; exact e2
            clear e2
            go_wp2_with (first
              | (go_at_call 122; refine h1.mono ?_; rintro e w1 ⟨rfl, r1, g1⟩; have H1 := hide r1; have G1 := hide (grown_trans (unhide HG) g1); clear r1 g1)
              | (go_at_call 121; refine (hok _ (unhide H1)).mono ?_; rintro e w2 ⟨⟨v2, rfl⟩, r2, g2⟩; have H2 := hide r2; have G2 := hide (grown_trans (unhide G1) g2); clear r2 g2))
            go_ret
            obtain rfl := unhide HE2
            exact ⟨rfl, by have := unhide H2; rw [decide_eq_true hy0]; exact this, unhide G2⟩
          · have e3 : bits .or .i64 (n : Int) ((x : Int) * 128) = (N2 : Int) := by
              rw [show ((x * 2 ^ (7 * 1) : Nat) : Int) = (x : Int) * 128 by simp] at e2; exact e2
            clear e2
            go_wp2_with (first
              | (go_at_call 122; refine h1.mono ?_; rintro e w1 ⟨rfl, r1, g1⟩; have H1 := hide r1; have G1 := hide (grown_trans (unhide HG) g1); clear r1 g1)
              | (go_at_call 121; refine (hok _ (unhide H1)).mono ?_; rintro e w2 ⟨⟨v2, rfl⟩, r2, g2⟩; have H2 := hide r2; have G2 := hide (grown_trans (unhide G1) g2); clear r2 g2))
            go_ret
            obtain rfl := unhide HE2
            exact ⟨rfl, by have := unhide H2; rw [decide_eq_true hy0]; exact this, unhide G2⟩
          · have e3 : bits .or .i64 (n : Int) ((x : Int) * 16384) = (N2 : Int) := by
              rw [show ((x * 2 ^ (7 * 2) : Nat) : Int) = (x : Int) * 16384 by simp] at e2; exact e2
            clear e2
            go_wp2_with (first
              | (go_at_call 122; refine h1.mono ?_; rintro e w1 ⟨rfl, r1, g1⟩; have H1 := hide r1; have G1 := hide (grown_trans (unhide HG) g1); clear r1 g1)
              | (go_at_call 121; refine (hok _ (unhide H1)).mono ?_; rintro e w2 ⟨⟨v2, rfl⟩, r2, g2⟩; have H2 := hide r2; have G2 := hide (grown_trans (unhide G1) g2); clear r2 g2))
            go_ret
            obtain rfl := unhide HE2
            exact ⟨rfl, by have := unhide H2; rw [decide_eq_true hy0]; exact this, unhide G2⟩
          · have e3 : bits .or .i64 (n : Int) ((x : Int) * 2097152) = (N2 : Int) := by
              rw [show ((x * 2 ^ (7 * 3) : Nat) : Int) = (x : Int) * 2097152 by simp] at e2; exact e2
            clear e2
            go_wp2_with (first
              | (go_at_call 122; refine h1.mono ?_; rintro e w1 ⟨rfl, r1, g1⟩; have H1 := hide r1; have G1 := hide (grown_trans (unhide HG) g1); clear r1 g1)
              | (go_at_call 121; refine (hok _ (unhide H1)).mono ?_; rintro e w2 ⟨⟨v2, rfl⟩, r2, g2⟩; have H2 := hide r2; have G2 := hide (grown_trans (unhide G1) g2); clear r2 g2))
            go_ret
            obtain rfl := unhide HE2
            exact ⟨rfl, by have := unhide H2; rw [decide_eq_true hy0]; exact this, unhide G2⟩
          · have e3 : bits .or .i64 (n : Int) ((x : Int) * 268435456) = (N2 : Int) := by
              rw [show ((x * 2 ^ (7 * 4) : Nat) : Int) = (x : Int) * 268435456 by simp] at e2; exact e2
            clear e2
            go_wp2_with (first
              | (go_at_call 122; refine h1.mono ?_; rintro e w1 ⟨rfl, r1, g1⟩; have H1 := hide r1; have G1 := hide (grown_trans (unhide HG) g1); clear r1 g1)
              | (go_at_call 121; refine (hok _ (unhide H1)).mono ?_; rintro e w2 ⟨⟨v2, rfl⟩, r2, g2⟩; have H2 := hide r2; have G2 := hide (grown_trans (unhide G1) g2); clear r2 g2))
            go_ret
            obtain rfl := unhide HE2
            exact ⟨rfl, by have := unhide H2; rw [decide_eq_true hy0]; exact this, unhide G2⟩
          · have e3 : bits .or .i64 (n : Int) ((x : Int) * 34359738368) = (N2 : Int) := by
              rw [show ((x * 2 ^ (7 * 5) : Nat) : Int) = (x : Int) * 34359738368 by simp] at e2; exact e2
            clear e2
            go_wp2_with (first
              | (go_at_call 122; refine h1.mono ?_; rintro e w1 ⟨rfl, r1, g1⟩; have H1 := hide r1; have G1 := hide (grown_trans (unhide HG) g1); clear r1 g1)
              | (go_at_call 121; refine (hok _ (unhide H1)).mono ?_; rintro e w2 ⟨⟨v2, rfl⟩, r2, g2⟩; have H2 := hide r2; have G2 := hide (grown_trans (unhide G1) g2); clear r2 g2))
            go_ret
            obtain rfl := unhide HE2
            exact ⟨rfl, by have := unhide H2; rw [decide_eq_true hy0]; exact this, unhide G2⟩
        · have hy0i : ¬ (0 : Int) < (y.toNat : Int) := by omega
          rcases hk0 with rfl | rfl | rfl | rfl | rfl | rfl
          · have e3 : bits .or .i64 (n : Int) ((x : Int)) = (N2 : Int) := by
              rw [show x * 2 ^ (7 * 0) = x by simp] at e2; exact e2
            clear e2
            have hok := hnd a2 t2 true
            go_wp2_with (first
              | (go_at_call 122; refine h1.mono ?_; rintro e w1 ⟨rfl, r1, g1⟩; have H1 := hide r1; have G1 := hide (grown_trans (unhide HG) g1); clear r1 g1)
              | (go_at_call 121; refine (hok _ (unhide H1)).mono ?_; rintro e w2 ⟨⟨v2, rfl⟩, r2, g2⟩; have H2 := hide r2; have G2 := hide (grown_trans (unhide G1) g2); clear r2 g2))
            go_ret
            obtain rfl := unhide HE2
            exact ⟨rfl, by have := unhide H2; rw [decide_eq_false hy0]; exact this, unhide G2⟩
          · have e3 : bits .or .i64 (n : Int) ((x : Int) * 128) = (N2 : Int) := by
              rw [show ((x * 2 ^ (7 * 1) : Nat) : Int) = (x : Int) * 128 by simp] at e2; exact e2
            clear e2
            have hok := hnd a2 t2 false
            go_wp2_with (first
              | (go_at_call 122; refine h1.mono ?_; rintro e w1 ⟨rfl, r1, g1⟩; have H1 := hide r1; have G1 := hide (grown_trans (unhide HG) g1); clear r1 g1)
              | (go_at_call 121; refine (hok _ (unhide H1)).mono ?_; rintro e w2 ⟨⟨v2, rfl⟩, r2, g2⟩; have H2 := hide r2; have G2 := hide (grown_trans (unhide G1) g2); clear r2 g2))
            go_ret
            obtain rfl := unhide HE2
            exact ⟨rfl, by have := unhide H2; rw [decide_eq_false hy0]; exact this, unhide G2⟩
          · have e3 : bits .or .i64 (n : Int) ((x : Int) * 16384) = (N2 : Int) := by
              rw [show ((x * 2 ^ (7 * 2) : Nat) : Int) = (x : Int) * 16384 by simp] at e2; exact e2
            clear e2
            have hok := hnd a2 t2 false
            go_wp2_with (first
              | (go_at_call 122; refine h1.mono ?_; rintro e w1 ⟨rfl, r1, g1⟩; have H1 := hide r1; have G1 := hide (grown_trans (unhide HG) g1); clear r1 g1)
              | (go_at_call 121; refine (hok _ (unhide H1)).mono ?_; rintro e w2 ⟨⟨v2, rfl⟩, r2, g2⟩; have H2 := hide r2; have G2 := hide (grown_trans (unhide G1) g2); clear r2 g2))
            go_ret
            obtain rfl := unhide HE2
            exact ⟨rfl, by have := unhide H2; rw [decide_eq_false hy0]; exact this, unhide G2⟩
          · have e3 : bits .or .i64 (n : Int) ((x : Int) * 2097152) = (N2 : Int) := by
              rw [show ((x * 2 ^ (7 * 3) : Nat) : Int) = (x : Int) * 2097152 by simp] at e2; exact e2
            clear e2
            have hok := hnd a2 t2 false
            go_wp2_with (first
              | (go_at_call 122; refine h1.mono ?_; rintro e w1 ⟨rfl, r1, g1⟩; have H1 := hide r1; have G1 := hide (grown_trans (unhide HG) g1); clear r1 g1)
              | (go_at_call 121; refine (hok _ (unhide H1)).mono ?_; rintro e w2 ⟨⟨v2, rfl⟩, r2, g2⟩; have H2 := hide r2; have G2 := hide (grown_trans (unhide G1) g2); clear r2 g2))
            go_ret
            obtain rfl := unhide HE2
            exact ⟨rfl, by have := unhide H2; rw [decide_eq_false hy0]; exact this, unhide G2⟩
          · have e3 : bits .or .i64 (n : Int) ((x : Int) * 268435456) = (N2 : Int) := by
              rw [show ((x * 2 ^ (7 * 4) : Nat) : Int) = (x : Int) * 268435456 by simp] at e2; exact e2
            clear e2
            have hok := hnd a2 t2 false
            go_wp2_with (first
              | (go_at_call 122; refine h1.mono ?_; rintro e w1 ⟨rfl, r1, g1⟩; have H1 := hide r1; have G1 := hide (grown_trans (unhide HG) g1); clear r1 g1)
              | (go_at_call 121; refine (hok _ (unhide H1)).mono ?_; rintro e w2 ⟨⟨v2, rfl⟩, r2, g2⟩; have H2 := hide r2; have G2 := hide (grown_trans (unhide G1) g2); clear r2 g2))
            go_ret
            obtain rfl := unhide HE2
            exact ⟨rfl, by have := unhide H2; rw [decide_eq_false hy0]; exact this, unhide G2⟩
          · have e3 : bits .or .i64 (n : Int) ((x : Int) * 34359738368) = (N2 : Int) := by
              rw [show ((x * 2 ^ (7 * 5) : Nat) : Int) = (x : Int) * 34359738368 by simp] at e2; exact e2
            clear e2
            have hok := hnd a2 t2 false
            go_wp2_with (first
              | (go_at_call 122; refine h1.mono ?_; rintro e w1 ⟨rfl, r1, g1⟩; have H1 := hide r1; have G1 := hide (grown_trans (unhide HG) g1); clear r1 g1)
              | (go_at_call 121; refine (hok _ (unhide H1)).mono ?_; rintro e w2 ⟨⟨v2, rfl⟩, r2, g2⟩; have H2 := hide r2; have G2 := hide (grown_trans (unhide G1) g2); clear r2 g2))
            go_ret
            obtain rfl := unhide HE2
            exact ⟨rfl, by have := unhide H2; rw [decide_eq_false hy0]; exact this, unhide G2⟩
      · rw [hl2 hyl] at hE
        have HE2 := hide hE
        have hyi : ¬ (y.toNat : Int) < 128 := by omega
        have HF := hide (show f = 6 - (k + 1) by omega)
        clear hE hl1 hl2 hx HE hf hpw hor hn hM hnb hN2 hy hk hk6
        rcases hk0 with rfl | rfl | rfl | rfl | rfl | rfl
        · have e3 : bits .or .i64 (n : Int) ((x : Int)) = (N2 : Int) := by
            rw [show x * 2 ^ (7 * 0) = x by simp] at e2; exact e2
          clear e2
          go_wp2_with (go_at_call 122; refine h1.mono ?_; rintro e w1 ⟨rfl, r1, g1⟩; have H1 := hide r1; have G1 := hide (grown_trans (unhide HG) g1); clear r1 g1)
          go_roundw
          case rel => exact ⟨1, N2, a2, t2, by omega, rfl, rfl, unhide HPW, H1, hide (by rw [unhide HF] at HE2; exact unhide HE2), G1⟩
          case measure => simp [intOf]
        · have e3 : bits .or .i64 (n : Int) ((x : Int) * 128) = (N2 : Int) := by
            rw [show ((x * 2 ^ (7 * 1) : Nat) : Int) = (x : Int) * 128 by simp] at e2; exact e2
          clear e2
          go_wp2_with (go_at_call 122; refine h1.mono ?_; rintro e w1 ⟨rfl, r1, g1⟩; have H1 := hide r1; have G1 := hide (grown_trans (unhide HG) g1); clear r1 g1)
          go_roundw
          case rel => exact ⟨2, N2, a2, t2, by omega, rfl, rfl, unhide HPW, H1, hide (by rw [unhide HF] at HE2; exact unhide HE2), G1⟩
          case measure => simp [intOf]
        · have e3 : bits .or .i64 (n : Int) ((x : Int) * 16384) = (N2 : Int) := by
            rw [show ((x * 2 ^ (7 * 2) : Nat) : Int) = (x : Int) * 16384 by simp] at e2; exact e2
          clear e2
          go_wp2_with (go_at_call 122; refine h1.mono ?_; rintro e w1 ⟨rfl, r1, g1⟩; have H1 := hide r1; have G1 := hide (grown_trans (unhide HG) g1); clear r1 g1)
          go_roundw
          case rel => exact ⟨3, N2, a2, t2, by omega, rfl, rfl, unhide HPW, H1, hide (by rw [unhide HF] at HE2; exact unhide HE2), G1⟩
          case measure => simp [intOf]
        · have e3 : bits .or .i64 (n : Int) ((x : Int) * 2097152) = (N2 : Int) := by
            rw [show ((x * 2 ^ (7 * 3) : Nat) : Int) = (x : Int) * 2097152 by simp] at e2; exact e2
          clear e2
          go_wp2_with (go_at_call 122; refine h1.mono ?_; rintro e w1 ⟨rfl, r1, g1⟩; have H1 := hide r1; have G1 := hide (grown_trans (unhide HG) g1); clear r1 g1)
          go_roundw
          case rel => exact ⟨4, N2, a2, t2, by omega, rfl, rfl, unhide HPW, H1, hide (by rw [unhide HF] at HE2; exact unhide HE2), G1⟩
          case measure => simp [intOf]
        · have e3 : bits .or .i64 (n : Int) ((x : Int) * 268435456) = (N2 : Int) := by
            rw [show ((x * 2 ^ (7 * 4) : Nat) : Int) = (x : Int) * 268435456 by simp] at e2; exact e2
          clear e2
          go_wp2_with (go_at_call 122; refine h1.mono ?_; rintro e w1 ⟨rfl, r1, g1⟩; have H1 := hide r1; have G1 := hide (grown_trans (unhide HG) g1); clear r1 g1)
          go_roundw
          case rel => exact ⟨5, N2, a2, t2, by omega, rfl, rfl, unhide HPW, H1, hide (by rw [unhide HF] at HE2; exact unhide HE2), G1⟩
          case measure => simp [intOf]
        · have e3 : bits .or .i64 (n : Int) ((x : Int) * 34359738368) = (N2 : Int) := by
            rw [show ((x * 2 ^ (7 * 5) : Nat) : Int) = (x : Int) * 34359738368 by simp] at e2; exact e2
          clear e2
          go_wp2_with (go_at_call 122; refine h1.mono ?_; rintro e w1 ⟨rfl, r1, g1⟩; have H1 := hide r1; have G1 := hide (grown_trans (unhide HG) g1); clear r1 g1)
          go_roundw
          case rel => exact ⟨6, N2, a2, t2, by omega, rfl, rfl, unhide HPW, H1, hide (by rw [unhide HF] at HE2; exact unhide HE2), G1⟩
          case measure => simp [intOf]
    · obtain rfl : k = 6 := by omega
      have hE := unhide HE
      have hE2 : ((0 : Nat), a', true) = V := hE
      have HE2 := hide hE2
      have hok := hnd a' t' false
      rw [show (t' || !false) = true by simp] at hok
      clear hE hE2 HE hn hone hk hk6
      go_wp2_with (go_at_call 121; refine (hok _ (unhide HR)).mono ?_; rintro e w2 ⟨⟨v2, rfl⟩, r2, g2⟩; have H2 := hide r2; have G2 := hide (grown_trans (unhide HG) g2); clear r2 g2)
      go_ret
      obtain rfl := unhide HE2
      exact ⟨rfl, unhide H2, unhide G2⟩
end Go.Proofs.YtfigjfmldpfjkaaGreat
