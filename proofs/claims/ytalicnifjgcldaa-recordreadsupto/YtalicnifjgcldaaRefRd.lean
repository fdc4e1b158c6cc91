/- The reference's read and begins. -/
import Derived.Test.YtalicnifjgcldaaPlaysFin
namespace Go.Proofs.Ytalicnifjgcldaa
open Go.RowKit Go.Sort Go.Shelf

theorem varS_true (l : List UInt8) : ∀ (f i n a : Nat), (varS l f i n a true).2.2 = true := by
  intro f
  induction f with
  | zero => intro i n a; rfl
  | succ f ih =>
    intro i n a
    rw [varS_last l f i n a true (by rw [st1_torn]; exact (by decide : (0 : UInt8).toNat < 128))]
    simp [st1_torn]
/-- What the reference's read answers. -/
def RdR (l : List UInt8) (a most : Nat) (e : Ending) : Prop := ∃ (n p : Nat) (ok : Bool), e = .returned (.tuple #[.int .i64 (n : Int), .int .i64 (p : Int), .bool ok]) ∧ n ≤ 72057594037927936 ∧ p ≤ l.length + 10 ∧
  ((varS l 8 0 0 a false).2.2 = false → n = (varS l 8 0 0 a false).1 ∧ p = (varS l 8 0 0 a false).2.1 ∧ ok = decide ((varS l 8 0 0 a false).1 ≤ most)) ∧ ((varS l 8 0 0 a false).2.2 = true → ok = false)
set_option maxRecDepth 100000 in
set_option maxHeartbeats 1000000 in
theorem refRead (q : Option Addr) (cp : Nat) (l : List UInt8) (a most : Nat) (w : World) (h : SlOf encB 1 w q cp l) (hl : l.length ≤ 1000000000000000) (ha : a ≤ 10) :
    Calls Try.prog 36 #[.slice q l.length cp, .int .i64 (a : Int), .int .i64 (most : Int)] w fun e w' => RdR l a most e ∧ w' = w := by
  have HR : Hid (∀ (n p : Nat) (ok : Bool), n ≤ 72057594037927936 → p ≤ l.length + 10 → ((varS l 8 0 0 a false).2.2 = false → n = (varS l 8 0 0 a false).1 ∧ p = (varS l 8 0 0 a false).2.1 ∧ ok = decide ((varS l 8 0 0 a false).1 ≤ most)) → ((varS l 8 0 0 a false).2.2 = true → ok = false) → RdR l a most (.returned (.tuple #[.int .i64 (n : Int), .int .i64 (p : Int), .bool ok]))) := hide (fun n p ok h1 h2 h3 h4 => ⟨n, p, ok, rfl, h1, h2, h3, h4⟩)
  generalize RdR l a most = RR at HR ⊢
  obtain ⟨V, hV⟩ : ∃ V, varS l 8 0 0 a false = V := ⟨_, rfl⟩
  rw [hV] at HR
  have HV := hide hV
  have HS := hide h
  clear hV h
  go_enter Try.func36, Try.ntmps36
  go_wp2
  go_loopw [9, 10, 11] (fun v9 v10 v11 wr => ∃ (k n F : Nat), k ≤ 8 ∧ a + k ≤ max a l.length ∧ v9 = .int .i64 (n : Int) ∧ v10 = .int .i64 (F : Int) ∧ v11 = .int .i64 (k : Int) ∧ Hid (F = 2 ^ (7 * k)) ∧ Hid (n < 2 ^ (7 * k)) ∧ Hid (varS l (8 - k) k n (a + k) false = V) ∧ wr = w) (fun _ _ v11 _ => 8 - (intOf v11).toNat)
  case atStart => exact ⟨0, 0, 1, by omega, by omega, rfl, rfl, rfl, hide (by simp), hide (by simp), HV, rfl⟩
  case round =>
    obtain ⟨k, n, F, hk, hak, rfl, rfl, rfl, HF, HN, HE, rfl⟩ := hrel
    have hFb : F ≤ 72057594037927936 := by
      rw [unhide HF]
      have : 2 ^ (7 * k) ≤ 2 ^ 56 := Nat.pow_le_pow_right (by omega) (by omega)
      omega
    have hnF : n < F := by rw [unhide HF]; exact unhide HN
    obtain ⟨AK, hAK⟩ : ∃ AK, a + k = AK := ⟨_, rfl⟩
    have gAK : (a : Int) + (k : Int) = (AK : Int) := by omega
    have hAKb : (AK : Int) ≤ 2000000000000000 := by omega
    by_cases hin : k < 8 ∧ a + k < l.length
    · obtain ⟨hk8, hlt⟩ := hin
      obtain ⟨y, hy, _⟩ := get_at hlt
      obtain ⟨b, off, hq, hb, c0⟩ := byteAt (unhide HS) hy
      subst hq
      have hs := st1_yes hy
      obtain ⟨f, hf⟩ : ∃ f, 8 - k = f + 1 := ⟨7 - k, by omega⟩
      have hE := unhide HE
      rw [hf] at hE
      have hl1 := varS_last l f k n (a + k) false
      have hl2 := varS_more l f k n (a + k) false
      rw [hs] at hl1 hl2
      simp only at hl1 hl2
      obtain ⟨x, hx⟩ : ∃ x, y.toNat % 128 = x := ⟨_, rfl⟩
      have hyl := y.toNat_lt
      rw [hx, ← unhide HF] at hl1 hl2
      obtain ⟨P, hP⟩ : ∃ P, x * F = P := ⟨_, rfl⟩
      have hPb : P ≤ 127 * F := by rw [← hP]; exact Nat.mul_le_mul_right _ (by omega)
      have hF7 : k < 8 → F ≤ 562949953421312 := fun _ => by
        rw [unhide HF]
        have : 2 ^ (7 * k) ≤ 2 ^ 49 := Nat.pow_le_pow_right (by omega) (by omega)
        omega
      have hF8 := hF7 hk8
      rw [hP] at hl1 hl2
      obtain ⟨N2, hN2⟩ : ∃ N2, n + P = N2 := ⟨_, rfl⟩
      obtain ⟨F2, hF2⟩ : ∃ F2, F * 128 = F2 := ⟨_, rfl⟩
      rw [hN2] at hl1 hl2
      have hN2F : N2 < F2 := by omega
      have g1 : (y.toNat : Int).tmod 128 = (x : Int) := by rw [Int.tmod_eq_emod_of_nonneg (by omega)]; omega
      have g1' : (y.toNat : Int) % 128 = (x : Int) := by omega
      have g2 : (x : Int) * (F : Int) = (P : Int) := by rw [← hP]; simp
      have g3 : (n : Int) + (P : Int) = (N2 : Int) := by omega
      have g4 : (F : Int) * 128 = (F2 : Int) := by omega
      have g5 : (P : Int) ≤ 72057594037927936 := by omega
      have g6 : (N2 : Int) ≤ 72057594037927936 := by omega
      have g7 : (F2 : Int) ≤ 72057594037927936 := by omega
      have hk8i : (k : Int) < 8 := by omega
      have hlti : (AK : Int) < (l.length : Int) := by omega
      have hAK0 : (0 : Int) ≤ (AK : Int) := by omega
      have c0' : wr.cell? ⟨b, off + AK, none⟩ = some (.int .u8 (y.toNat : Int)) := by rw [← hAK]; exact c0
      have HF2 : Hid (F2 = 2 ^ (7 * (k + 1))) := hide (by rw [← hF2, unhide HF, show 7 * (k + 1) = 7 * k + 7 by omega, Nat.pow_add])
      have HN2F := hide hN2F
      have HAK := hide hAK
      by_cases hy128 : y.toNat < 128
      · rw [hl1 hy128] at hE
        have HE2 := hide hE
        have hyi : (y.toNat : Int) < 128 := by omega
        obtain ⟨good, hgood⟩ : ∃ good, (decide (0 < y.toNat) || decide (k = 0)) = good := ⟨_, rfl⟩
        have HGD := hide hgood
        clear hl1 hl2 hE hs hf hx hP hN2 hF2 hgood c0 hAK hy
        clear HGD good
        by_cases hmo2 : N2 ≤ most
        · have hmi : (N2 : Int) ≤ (most : Int) := by omega
          by_cases hy0 : 0 < y.toNat
          · have hy0i : (0 : Int) < (y.toNat : Int) := by omega
            have HG1 : (decide (0 < y.toNat) || decide (k = 0)) = true := by rw [decide_eq_true hy0]; rfl
            go_wp2
            refine bodyPost_ret (results_tmp3 rfl _ _ _) rfl ?_
            exact ⟨unhide HR N2 (AK + 1) true (by omega) (by omega) (fun _ => by obtain rfl := unhide HE2; exact ⟨rfl, by have := unhide HAK; simp only; omega, (decide_eq_true hmo2).symm⟩) (fun hh => by obtain rfl := unhide HE2; have hg : (decide (0 < y.toNat) || decide (k = 0)) = true := HG1; rw [hg] at hh; cases hh), rfl⟩
          · have hy0i : ¬ (0 : Int) < (y.toNat : Int) := by omega
            by_cases hk0 : k = 0
            · have hk0i : ((k : Int) == 0) = true := by simp; omega
              have HG1 : (decide (0 < y.toNat) || decide (k = 0)) = true := by rw [decide_eq_true hk0, Bool.or_true]
              clear hk0
              go_wp2
              refine bodyPost_ret (results_tmp3 rfl _ _ _) rfl ?_
              exact ⟨unhide HR N2 (AK + 1) true (by omega) (by omega) (fun _ => by obtain rfl := unhide HE2; exact ⟨rfl, by have := unhide HAK; simp only; omega, (decide_eq_true hmo2).symm⟩) (fun hh => by obtain rfl := unhide HE2; have hg : (decide (0 < y.toNat) || decide (k = 0)) = true := HG1; rw [hg] at hh; cases hh), rfl⟩
            · have hk0i : ((k : Int) == 0) = false := by simp; omega
              have HG1 : (decide (0 < y.toNat) || decide (k = 0)) = false := by rw [decide_eq_false hy0, decide_eq_false hk0]; rfl
              clear hk0
              go_wp2
              refine bodyPost_ret (results_tmp3 rfl _ _ _) rfl ?_
              exact ⟨unhide HR N2 (AK + 1) false (by omega) (by omega) (fun hh => by obtain rfl := unhide HE2; have hg : (decide (0 < y.toNat) || decide (k = 0)) = false := HG1; rw [hg] at hh; cases hh) (fun _ => rfl), rfl⟩
        · have hmi : ¬ (N2 : Int) ≤ (most : Int) := by omega
          by_cases hG : (decide (0 < y.toNat) || decide (k = 0)) = true
          · have HG1 := hG
            go_wp2
            refine bodyPost_ret (results_tmp3 rfl _ _ _) rfl ?_
            exact ⟨unhide HR N2 (AK + 1) false (by omega) (by omega) (fun _ => by obtain rfl := unhide HE2; exact ⟨rfl, by have := unhide HAK; simp only; omega, (decide_eq_false hmo2).symm⟩) (fun _ => rfl), rfl⟩
          · have HG1 : (decide (0 < y.toNat) || decide (k = 0)) = false := by simpa using hG
            go_wp2
            refine bodyPost_ret (results_tmp3 rfl _ _ _) rfl ?_
            exact ⟨unhide HR N2 (AK + 1) false (by omega) (by omega) (fun hh => by obtain rfl := unhide HE2; have hg : (decide (0 < y.toNat) || decide (k = 0)) = false := HG1; rw [hg] at hh; cases hh) (fun _ => rfl), rfl⟩
      · rw [hl2 hy128] at hE
        have HE2 := hide (show varS l (8 - (k + 1)) (k + 1) N2 (a + (k + 1)) false = V by rw [show 8 - (k + 1) = f by omega, ← Nat.add_assoc]; exact hE)
        have hyi : ¬ (y.toNat : Int) < 128 := by omega
        clear hl1 hl2 hE hs hf hx hP hN2 hF2 c0 hAK hy
        go_wp2
        go_roundw
        case rel => exact ⟨k + 1, N2, F2, by omega, by have := unhide HAK; omega, rfl, rfl, by go_num, HF2, hide (by have := unhide HN2F; rw [unhide HF2] at this; exact this), HE2, trivial⟩
        case measure => simp [intOf]; omega
    · have hVt : V.2.2 = true := by
        rw [← unhide HE]
        by_cases hk8 : k < 8
        · have hge : l.length ≤ a + k := by omega
          obtain ⟨f, hf⟩ : ∃ f, 8 - k = f + 1 := ⟨7 - k, by omega⟩
          rw [hf, varS_last l f k n (a + k) false (by rw [st1_end false hge]; exact (by decide : (0 : UInt8).toNat < 128)), st1_end false hge]
          simp
        · obtain rfl : k = 8 := by omega
          rfl
      have HVT := hide hVt
      clear hVt HE hAK
      by_cases hk8 : k < 8
      · have hk8i : (k : Int) < 8 := by omega
        have hlti : ¬ (AK : Int) < (l.length : Int) := by omega
        clear hin
        go_wp2
        refine bodyPost_ret (results_tmp3 rfl _ _ _) rfl ?_
        exact ⟨unhide HR 0 0 false (by omega) (by omega) (fun hh => by rw [unhide HVT] at hh; cases hh) (fun _ => rfl), rfl⟩
      · have hk8i : ¬ (k : Int) < 8 := by omega
        clear hin
        go_wp2
        refine bodyPost_ret (results_tmp3 rfl _ _ _) rfl ?_
        exact ⟨unhide HR 0 0 false (by omega) (by omega) (fun hh => by rw [unhide HVT] at hh; cases hh) (fun _ => rfl), rfl⟩
set_option maxHeartbeats 1000000 in
theorem begins_any (q q' : Option Addr) (c c' : Nat) (l m : List UInt8) (w : World) (h : SlOf encB 1 w q c l) (h' : SlOf encB 1 w q' c' m) (hl : l.length ≤ 1000000000000000) :
    Calls Try.prog 37 #[.slice q l.length c, .slice q' m.length c'] w fun e w' => e = .returned (.bool (decide (l.take m.length = m))) ∧ Below w.heap.size w w' := by
  have mixed : Try.prog.follows .mixedOrders = true := by kernel_rfl
  by_cases hlen : m.length ≤ l.length
  · obtain ⟨R, hR⟩ : ∃ R, decide (l.take m.length = m) = R := ⟨_, rfl⟩
    rw [hR]
    have HR := hide hR
    have hli : ¬ (l.length : Int) < (m.length : Int) := by omega
    clear hR
    go_enter Try.func37, Try.ntmps37
    go_wp2
    go_loopw [5] (fun i wr => ∃ k : Nat, k ≤ m.length ∧ i = .int .i64 (k : Int) ∧ Hid (l.take k = m.take k) ∧ Hid (Below w.heap.size w wr)) (fun i _ => m.length - (intOf i).toNat)
    case atStart => exact ⟨0, Nat.zero_le _, rfl, hide rfl, hide (Below.refl _ _)⟩
    case round =>
      obtain ⟨k, hk, rfl, HT, HB⟩ := hrel
      by_cases hlt : k < m.length
      · obtain ⟨y, hy, _⟩ := get_at hlt
        obtain ⟨x, hx, _⟩ := get_at (show k < l.length by omega)
        obtain ⟨b, off, hq, hb, c0⟩ := byteAt (h.below (unhide HB)) hx
        obtain ⟨b', off', hq', hb', d0⟩ := byteAt (h'.below (unhide HB)) hy
        subst hq hq'
        have q0 := cell_regrown c0
        have r0 := cell_regrown d0
        have ki0 : (0 : Int) ≤ (k : Int) := by omega
        have ki1 : (k : Int) < (m.length : Int) := by omega
        have ki2 : (k : Int) < (l.length : Int) := by omega
        by_cases hxy : x = y
        · have HT2 := hide (show l.take (k + 1) = m.take (k + 1) by rw [take_snoc_of hx, take_snoc_of hy, unhide HT, hxy])
          subst hxy
          clear h h' hx hy
          go_wp2
          refine wp_region_quiet_below (by assumption) (by kernel_rfl) ?_
          repeat (go_big_quiet_step (fail))
          refine wpQuiet_nil ?_
          intro _ hw'
          obtain ⟨⟨dq, osq⟩, hw''⟩ := hw'
          subst hw''
          go_wp2
          go_roundw
          case rel => exact ⟨k + 1, by omega, by go_num, HT2, hide ((unhide HB).trans ((below_regrown _ _ _).mono (unhide HB).size))⟩
          case measure => simp [intOf]; omega
        · have HN := hide (show R = false by
            rw [← unhide HR]
            exact decide_eq_false (fun e => hxy (by
              have e2 := congrArg (fun z : List UInt8 => z[k]?) e
              simp only [List.getElem?_take_of_lt hlt, hx, hy] at e2
              injection e2)))
          have hnei : ((x.toNat : Int) == (y.toNat : Int)) = false := by
            simp; intro e; exact hxy (byte_ext (by omega))
          clear h h' hx hy hxy
          go_wp2
          refine wp_region_quiet_below (by assumption) (by kernel_rfl) ?_
          repeat (go_big_quiet_step (fail))
          refine wpQuiet_nil ?_
          intro _ hw'
          obtain ⟨⟨dq, osq⟩, hw''⟩ := hw'
          subst hw''
          go_wp2
          go_ret
          exact ⟨ret_bool (unhide HN).symm, (unhide HB).trans ((below_regrown _ _ _).mono (unhide HB).size)⟩
      · obtain rfl : k = m.length := by omega
        have ki1 : ¬ (m.length : Int) < (m.length : Int) := by omega
        clear h h'
        go_wp2
        go_ret
        refine ⟨ret_bool ?_, unhide HB⟩
        rw [← unhide HR]
        symm
        refine decide_eq_true ?_
        have h1 := unhide HT
        rw [List.take_length] at h1
        exact h1
  · have hli : (l.length : Int) < (m.length : Int) := by omega
    rw [decide_eq_false (fun e => hlen (by have := congrArg List.length e; rw [List.length_take] at this; omega))]
    clear h h'
    go_enter Try.func37, Try.ntmps37
    go_wp2
    go_ret
    exact ⟨rfl, Below.refl _ _⟩
end Go.Proofs.Ytalicnifjgcldaa
