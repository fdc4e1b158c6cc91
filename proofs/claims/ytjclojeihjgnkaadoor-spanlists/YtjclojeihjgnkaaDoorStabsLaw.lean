/- The law SpanStabs: a number lies in a range just if one of its path is in the cover, and one alone. -/
import Derived.Test.YtjclojeihjgnkaaDoorCoversLaw
namespace Go.Proofs.YtjclojeihjgnkaaDoor
open Go.RowKit
open Go.Sort (grow)

theorem mem_span {p l i X T : Nat} (hT : 2 ^ l = T) (hp : i * T = p) : (X / 2 ^ l = i) ↔ (p ≤ X ∧ X < p + T) := by
  have h0 := Nat.two_pow_pos l
  rw [hT] at h0 ⊢
  subst hp
  constructor
  · intro h
    have h1 := Nat.div_add_mod X T
    have h2 := Nat.mod_lt X h0
    rw [h, Nat.mul_comm] at h1
    omega
  · rintro ⟨h1, h2⟩
    apply Nat.div_eq_of_lt_le
    · exact h1
    · rw [Nat.add_mul, Nat.one_mul]; exact h2
/-- Has the number been met among the places from P0 to p? -/
def met (P0 p X : Nat) : Nat := if P0 ≤ X ∧ X < p then 1 else 0
theorem met_step {P0 p l i X T : Nat} (hT : 2 ^ l = T) (hp : i * T = p) (h : P0 ≤ p) : met P0 (p + T) X = met P0 p X + (if X / 2 ^ l = i then 1 else 0) := by
  have h1 := mem_span (X := X) hT hp
  unfold met
  by_cases c : X / 2 ^ l = i
  · have := h1.1 c
    rw [if_pos c, if_pos (by omega), if_neg (by omega)]
  · rw [if_neg c]
    by_cases c2 : P0 ≤ X ∧ X < p
    · rw [if_pos c2, if_pos (by omega)]
    · rw [if_neg c2, if_neg (fun g => c (h1.2 (by omega)))]
theorem PthAt.get {w : World} {b X j : Nat} (h : PthAt w b X 33) (hj : j < 33) : w.cell? ⟨b, j * 2, none⟩ = some (.int .i64 (j : Int)) ∧ w.cell? ⟨b, j * 2 + 1, none⟩ = some (.int .i64 ((X / 2 ^ j : Nat) : Int)) := by
  have h1 := h.1 j hj
  simp only [if_pos hj] at h1
  exact h1

set_option maxHeartbeats 1000000 in
theorem stabs_empty (lo hi x : Int) (w : World) (hG : G w) (hxy : ¬ max lo (-2147483648) ≤ min hi 2147483647) : Calls Tryd.prog 6 #[.int .i64 lo, .int .i64 hi, .int .i64 x] w fun e w' => e = .returned (.bool true) ∧ Below w.heap.size w w' := by
  have hfix := fixed_any
  have hcv := cover_any lo hi
  have HG := hide hG
  clear hG
  have hcv2 : ∀ w, G w → Calls Tryd.prog 22 #[.int .i64 lo, .int .i64 hi] w fun e w' => ∃ q cap, e = .returned (.slice q 0 cap) ∧ Below w.heap.size w w' := by
    intro w g
    have h := hcv w g
    rw [covZ_none hxy] at h
    exact h.mono fun e w' ⟨q, cap, h1, _, h3⟩ => ⟨q, cap, h1, h3⟩
  have hpa : ∀ w, Calls Tryd.prog 23 #[.int .i64 x] w fun e w' => ∃ q m c, e = .returned (.slice q m c) ∧ Below w.heap.size w w' := by
    intro w
    by_cases hn : -2147483648 ≤ x ∧ x ≤ 2147483647
    · exact (path_any x (x + 2147483648).toNat (by omega) (by omega) w).mono fun e w' ⟨h1, _, h3⟩ => ⟨_, _, _, h1, h3⟩
    · exact (path_none x hn w).mono fun e w' ⟨h1, h3⟩ => ⟨_, _, _, h1, by rw [h3]; exact Below.refl _ _⟩
  obtain ⟨x0, hx⟩ : ∃ x0, max lo (-2147483648) = x0 := ⟨_, rfl⟩
  obtain ⟨y0, hy⟩ : ∃ y0, min hi 2147483647 = y0 := ⟨_, rfl⟩
  rw [hx, hy] at hxy
  clear hcv
  go_enter Tryd.func6, Tryd.ntmps6
  go_wp2_with (first
    | (go_at_call 9; refine (hfix _ (unhide HG)).mono ?_; rintro e w1 ⟨rfl, b1⟩; have B1 := hide b1; clear b1)
    | (go_at_call 23; refine (hpa _).mono ?_; rintro e w2 ⟨pq, pm, pc, rfl, b2⟩; have B2 := hide (below_sub (unhide B1) b2); clear b2)
    | (go_at_call 22; refine (hcv2 _ ((unhide HG).below' (unhide B2))).mono ?_; rintro e w3 ⟨q, cap, rfl, b3⟩; have B3 := hide (below_sub (unhide B2) b3); clear b3))
  go_loopw [7, 22] (fun a i wr => a = .int .i64 0 ∧ i = .int .i64 0 ∧ wr = w3) (fun _ _ _ => 0)
  case atStart => exact ⟨rfl, rfl, rfl⟩
  case round =>
    obtain ⟨rfl, rfl, rfl⟩ := hrel
    by_cases c1 : x0 ≤ x
    · have c2 : ¬ x ≤ y0 := by omega
      go_wp2
      go_ret
      exact ⟨rfl, unhide B3⟩
    · go_wp2
      go_ret
      exact ⟨rfl, unhide B3⟩

set_option maxHeartbeats 1000000 in
theorem stabs_out (lo hi x : Int) (w : World) (hG : G w) (hxy : max lo (-2147483648) ≤ min hi 2147483647) (hnum : ¬ (-2147483648 ≤ x ∧ x ≤ 2147483647)) : Calls Tryd.prog 6 #[.int .i64 lo, .int .i64 hi, .int .i64 x] w fun e w' => e = .returned (.bool true) ∧ Below w.heap.size w w' := by
  have hfix := fixed_any
  have hcv := cover_any lo hi
  have HG := hide hG
  clear hG
  have ecov : coverZ lo hi = cover (max lo (-2147483648) + 2147483648).toNat (min hi 2147483647 - max lo (-2147483648) + 1).toNat := rfl
  obtain ⟨x0, hx⟩ : ∃ x0, max lo (-2147483648) = x0 := ⟨_, rfl⟩
  obtain ⟨y0, hy⟩ : ∃ y0, min hi 2147483647 = y0 := ⟨_, rfl⟩
  rw [hx, hy] at ecov hxy
  have hx1 : -2147483648 ≤ x0 := by omega
  have hy1 : y0 ≤ 2147483647 := by omega
  obtain ⟨P0, hP⟩ : ∃ P0, (x0 + 2147483648).toNat = P0 := ⟨_, rfl⟩
  obtain ⟨R, hR⟩ : ∃ R, (y0 - x0 + 1).toNat = R := ⟨_, rfl⟩
  rw [hP, hR] at ecov
  have hPx : (P0 : Int) = x0 + 2147483648 := by omega
  have hRx : (R : Int) = y0 - x0 + 1 := by omega
  have hPR : P0 + R ≤ 4294967296 := by omega
  have hlen := cover_len P0 R hPR
  rw [← ecov] at hlen
  obtain ⟨cv, hcvl⟩ : ∃ cv, coverZ lo hi = cv := ⟨_, rfl⟩
  rw [hcvl] at hcv ecov hlen
  obtain ⟨n, hn⟩ : ∃ n, cv.length = n := ⟨_, rfl⟩
  have hcv2 : ∀ w, G w → Calls Tryd.prog 22 #[.int .i64 lo, .int .i64 hi] w fun e w' => ∃ q cap, e = .returned (.slice q n cap) ∧ OwnK encP 23 2 w.heap.size w' q cap cv ∧ Below w.heap.size w w' := by
    rw [hn] at hcv
    exact hcv
  rw [hn] at hlen
  have HE := hide (And.intro ecov hn)
  clear hcv hcvl ecov hn hP hR
  have hpa := path_none x hnum
  have en16 : ∀ args w, (callFunc 16 args).run Tryd.prog w = .ok (.enter 16 args) w := enters_of Tryd.func16 (by kernel_rfl) rfl
  have mixed : Tryd.prog.follows .mixedOrders = true := by kernel_rfl
  go_enter Tryd.func6, Tryd.ntmps6
  go_wp2_with (first
    | (go_at_call 9; refine (hfix _ (unhide HG)).mono ?_; rintro e w1 ⟨rfl, b1⟩; have B1 := hide b1; clear b1)
    | (go_at_call 23; refine (hpa _).mono ?_; rintro e w1' ⟨rfl, hw1⟩; rw [hw1])
    | (go_at_call 22; refine (hcv2 _ ((unhide HG).below' (unhide B1))).mono ?_; rintro e w2 ⟨q, cap, rfl, o2, b2⟩; have O2 := hide o2; have B2 := hide (below_sub (unhide B1) b2); clear o2 b2))
  go_loopw [7, 22] (fun a i wr => ∃ (k p r : Nat) (d : List (Nat × Nat)), k ≤ n ∧ i = .int .i64 k ∧ a = .int .i64 0 ∧ p + r = P0 + R ∧ cv = d ++ cover p r ∧ d.length = k ∧ Below w2.heap.size w2 wr) (fun _ i _ => n - (intOf i).toNat)
  case atStart => exact ⟨0, P0, R, [], by omega, rfl, rfl, rfl, (unhide HE).1, rfl, Below.refl _ _⟩
  case round =>
    obtain ⟨k, p, r, d, hk, rfl, rfl, hpr, hcvd, hd, hbel⟩ := hrel
    obtain ⟨U, hU⟩ : ∃ U, U = wr := ⟨_, rfl⟩
    subst hU
    by_cases h0 : 0 < r
    · skip
      have hst := cover_step p r h0
      have hlt : k < n := by
        have := congrArg List.length hcvd
        rw [hst, List.length_append, List.length_cons, (unhide HE).2, hd] at this
        omega
      obtain ⟨hok, hi2, hle, hl32⟩ := head_ok (p := p) (r := r) h0 (by omega)
      have hxk : cv[k]? = some (lv p r, p / 2 ^ lv p r) := by
        rw [hcvd, hst, ← hd]
        simp
      obtain ⟨bb, off, rfl, hbb, hcc⟩ := LsOf.at ((unhide O2).ls.below hbel).2.2.2 hxk
      obtain ⟨g0, g1⟩ := cells2 hcc
      obtain ⟨l, hl⟩ : ∃ l, lv p r = l := ⟨_, rfl⟩
      rw [hl] at hok hi2 hle hl32 hxk hst g0 g1
      obtain ⟨i, hi3⟩ : ∃ i, p / 2 ^ l = i := ⟨_, rfl⟩
      rw [hi3] at hok hi2 hxk hst g0 g1
      have hcv3 : cv = (d ++ [(l, i)]) ++ cover (p + 2 ^ l) (r - 2 ^ l) := by rw [hcvd, hst]; simp
      have HN := hide hcv3
      have hT := Nat.two_pow_pos l
      have h16 := has_good l i hok x
      obtain ⟨T, hTe⟩ : ∃ T, 2 ^ l = T := ⟨_, rfl⟩
      have HT := hide hTe
      have eA : loS l i = (p : Int) - 2147483648 := by unfold loS; omega
      have eB : hiS l i = ((p + T : Nat) : Int) - 2147483648 - 1 := by unfold hiS; rw [← hTe]; omega
      rw [eA, eB] at h16
      rw [hTe] at hT hle hi2
      have ki0 : (0 : Int) ≤ (k : Int) := by omega
      have ki1 : (k : Int) < (n : Int) := by omega
      have hfal : (decide ((p : Int) - 2147483648 ≤ x) && decide (x ≤ ((p + T : Nat) : Int) - 2147483648 - 1)) = false := by
        rw [Bool.and_eq_false_iff, decide_eq_false_iff_not, decide_eq_false_iff_not]
        omega
      rw [hfal] at h16
      have HZ := hide (And.intro hpr (And.intro hd hbel))
      obtain ⟨V, hV⟩ : ∃ V, V = U.alloc (.cells #[.int .i64 (l : Int), .int .i64 (i : Int)] 23) := ⟨_, rfl⟩
      have v0 : V.cell? ⟨U.heap.size, 0, none⟩ = some (.int .i64 l) := by rw [hV]; simp
      have v1 : V.cell? ⟨U.heap.size, 1, none⟩ = some (.int .i64 i) := by rw [hV]; simp
      have sV : U.heap.size < V.heap.size := by rw [hV]; simp
      have bV : Below U.heap.size U V := by rw [hV]; exact (Below.refl _ _).alloc (Nat.le_refl _) _
      have HV := hide bV
      clear hst hcvd hcv3 hxk hcc hi2 hok hi3 hTe eA eB hd hl hfal bV
      go_wp2
      rw [← hV]
      clear hV
      go_loopw [7, 28] (fun a j wq => a = .int .i64 0 ∧ j = .int .i64 0 ∧ wq = V) (fun _ _ _ => 0)
      case atStart => exact ⟨rfl, rfl, rfl⟩
      case round =>
        obtain ⟨rfl, rfl, rfl⟩ := hrel
        have dg : decide ((l : Int) < 0) = false := by simp
        have w0 : ∀ n os, (grow (redrawn wr n) os).cell? ⟨U.heap.size, 0, none⟩ = some (.int .i64 l) := cell_regrown v0
        have w1x : ∀ n os, (grow (redrawn wr n) os).cell? ⟨U.heap.size, 1, none⟩ = some (.int .i64 i) := cell_regrown v1
        go_wp2
        refine wp_region_quiet_below (by assumption) (by kernel_rfl) ?_
        repeat (go_big_quiet_step (first
          | (go_at_fn 16; refine Calls.regrown_of (h16 _))))
        refine wpQuiet_nil ?_
        intro _ hw'
        obtain ⟨⟨dq, osq⟩, hw''⟩ := hw'
        subst hw''
        go_wp2
        obtain ⟨hpr, hd, hbel⟩ := unhide HZ
        have n1 := unhide HN
        rw [unhide HT] at n1
        exact ⟨⟨k + 1, p + T, r - T, d ++ [(l, i)], by omega, by simp, rfl, by omega, n1, by simp [hd], below_sub hbel (below_sub (unhide HV) (below_regrown _ _ _))⟩, by simp [intOf]; omega⟩
    · obtain rfl : r = 0 := by omega
      have hkn : k = n := by
        have := congrArg List.length hcvd
        rw [cover_zero, List.append_nil, (unhide HE).2, hd] at this
        exact this.symm
      subst hkn
      have ki1 : ¬ (k : Int) < (k : Int) := by omega
      have HB := hide hbel
      clear hcvd hd hpr hbel
      by_cases c1 : x0 ≤ x
      · have c2 : ¬ x ≤ y0 := by omega
        go_wp2
        go_ret
        exact ⟨rfl, below_sub (unhide B2) (unhide HB)⟩
      · go_wp2
        go_ret
        exact ⟨rfl, below_sub (unhide B2) (unhide HB)⟩

set_option maxHeartbeats 2000000 in
theorem stabs_in (lo hi x : Int) (w : World) (hG : G w) (hxy : max lo (-2147483648) ≤ min hi 2147483647) (hnum : -2147483648 ≤ x ∧ x ≤ 2147483647) : Calls Tryd.prog 6 #[.int .i64 lo, .int .i64 hi, .int .i64 x] w fun e w' => e = .returned (.bool true) ∧ Below w.heap.size w w' := by
  have hfix := fixed_any
  have hcv := cover_any lo hi
  have HG := hide hG
  clear hG
  have ecov : coverZ lo hi = cover (max lo (-2147483648) + 2147483648).toNat (min hi 2147483647 - max lo (-2147483648) + 1).toNat := rfl
  obtain ⟨x0, hx⟩ : ∃ x0, max lo (-2147483648) = x0 := ⟨_, rfl⟩
  obtain ⟨y0, hy⟩ : ∃ y0, min hi 2147483647 = y0 := ⟨_, rfl⟩
  rw [hx, hy] at ecov hxy
  have hx1 : -2147483648 ≤ x0 := by omega
  have hy1 : y0 ≤ 2147483647 := by omega
  obtain ⟨P0, hP⟩ : ∃ P0, (x0 + 2147483648).toNat = P0 := ⟨_, rfl⟩
  obtain ⟨R, hR⟩ : ∃ R, (y0 - x0 + 1).toNat = R := ⟨_, rfl⟩
  rw [hP, hR] at ecov
  have hPx : (P0 : Int) = x0 + 2147483648 := by omega
  have hRx : (R : Int) = y0 - x0 + 1 := by omega
  have hPR : P0 + R ≤ 4294967296 := by omega
  have hlen := cover_len P0 R hPR
  rw [← ecov] at hlen
  obtain ⟨cv, hcvl⟩ : ∃ cv, coverZ lo hi = cv := ⟨_, rfl⟩
  rw [hcvl] at hcv ecov hlen
  obtain ⟨n, hn⟩ : ∃ n, cv.length = n := ⟨_, rfl⟩
  have hcv2 : ∀ w, G w → Calls Tryd.prog 22 #[.int .i64 lo, .int .i64 hi] w fun e w' => ∃ q cap, e = .returned (.slice q n cap) ∧ OwnK encP 23 2 w.heap.size w' q cap cv ∧ Below w.heap.size w w' := by
    rw [hn] at hcv
    exact hcv
  rw [hn] at hlen
  have HE := hide (And.intro ecov hn)
  clear hcv hcvl ecov hn hP hR
  obtain ⟨X, hX⟩ : ∃ X, (x + 2147483648).toNat = X := ⟨_, rfl⟩
  have hXx : (X : Int) = x + 2147483648 := by omega
  have hXlt : X < 4294967296 := by omega
  have hpa := path_any x X (by omega) hXlt
  have en16 : ∀ args w, (callFunc 16 args).run Tryd.prog w = .ok (.enter 16 args) w := enters_of Tryd.func16 (by kernel_rfl) rfl
  have mixed : Tryd.prog.follows .mixedOrders = true := by kernel_rfl
  clear hX
  go_enter Tryd.func6, Tryd.ntmps6
  go_wp2_with (first
    | (go_at_call 9; refine (hfix _ (unhide HG)).mono ?_; rintro e w1 ⟨rfl, b1⟩; have B1 := hide b1; clear b1)
    | (go_at_call 23; refine (hpa _).mono ?_; rintro e w1' ⟨rfl, op, bp⟩; have OP := hide op; have BP := hide (below_sub (unhide B1) bp); clear op bp)
    | (go_at_call 22; refine (hcv2 _ ((unhide HG).below' (unhide BP))).mono ?_; rintro e w2 ⟨q, cap, rfl, o2, b2⟩; have O2 := hide o2; have B2 := hide (below_sub (unhide BP) b2); have OP2 := hide ((unhide OP).below b2); clear o2 b2))
  obtain ⟨PB, hPB⟩ : ∃ PB, w1.heap.size = PB := ⟨_, rfl⟩
  rw [hPB] at OP2
  rw [hPB]
  clear hPB
  go_loopw [7, 22] (fun a i wr => ∃ (k p r : Nat) (d : List (Nat × Nat)), k ≤ n ∧ i = .int .i64 k ∧ a = .int .i64 (met P0 p X : Nat) ∧ p + r = P0 + R ∧ P0 ≤ p ∧ cv = d ++ cover p r ∧ d.length = k ∧ Below w2.heap.size w2 wr) (fun _ i _ => n - (intOf i).toNat)
  case atStart =>
    refine ⟨0, P0, R, [], by omega, rfl, ?_, rfl, Nat.le_refl _, (unhide HE).1, rfl, Below.refl _ _⟩
    unfold met
    rw [if_neg (by omega)]
    rfl
  case round =>
    obtain ⟨k, p, r, d, hk, rfl, rfl, hpr, hP0p, hcvd, hd, hbel⟩ := hrel
    obtain ⟨U, hU⟩ : ∃ U, U = wr := ⟨_, rfl⟩
    subst hU
    by_cases h0 : 0 < r
    · skip
      have hst := cover_step p r h0
      have hlt : k < n := by
        have := congrArg List.length hcvd
        rw [hst, List.length_append, List.length_cons, (unhide HE).2, hd] at this
        omega
      obtain ⟨hok, hi2, hle, hl32⟩ := head_ok (p := p) (r := r) h0 (by omega)
      have hxk : cv[k]? = some (lv p r, p / 2 ^ lv p r) := by
        rw [hcvd, hst, ← hd]
        simp
      obtain ⟨bb, off, rfl, hbb, hcc⟩ := LsOf.at ((unhide O2).ls.below hbel).2.2.2 hxk
      obtain ⟨g0, g1⟩ := cells2 hcc
      obtain ⟨l, hl⟩ : ∃ l, lv p r = l := ⟨_, rfl⟩
      rw [hl] at hok hi2 hle hl32 hxk hst g0 g1
      obtain ⟨i, hi3⟩ : ∃ i, p / 2 ^ l = i := ⟨_, rfl⟩
      rw [hi3] at hok hi2 hxk hst g0 g1
      have hcv3 : cv = (d ++ [(l, i)]) ++ cover (p + 2 ^ l) (r - 2 ^ l) := by rw [hcvd, hst]; simp
      have HN := hide hcv3
      have hT := Nat.two_pow_pos l
      have h16 := has_good l i hok x
      obtain ⟨T, hTe⟩ : ∃ T, 2 ^ l = T := ⟨_, rfl⟩
      have HT := hide hTe
      have eA : loS l i = (p : Int) - 2147483648 := by unfold loS; omega
      have eB : hiS l i = ((p + T : Nat) : Int) - 2147483648 - 1 := by unfold hiS; rw [← hTe]; omega
      rw [eA, eB] at h16
      rw [hTe] at hT hle hi2
      have ki0 : (0 : Int) ≤ (k : Int) := by omega
      have ki1 : (k : Int) < (n : Int) := by omega
      obtain ⟨E, hE⟩ : ∃ E, (decide ((p : Int) - 2147483648 ≤ x) && decide (x ≤ ((p + T : Nat) : Int) - 2147483648 - 1)) = E := ⟨_, rfl⟩
      rw [hE] at h16
      have hms := mem_span (X := X) hTe hi2
      have hEX : decide ((l : Int) = (l : Int) ∧ ((X / 2 ^ l : Nat) : Int) = (i : Int)) = E := by
        rw [← hE, Bool.eq_iff_iff]
        simp only [Bool.and_eq_true, decide_eq_true_eq, true_and]
        rw [Int.natCast_inj, hms]
        omega
      have qe := eqlS l ((X / 2 ^ l : Nat) : Int) l i
      rw [hEX] at qe
      have hEE : (E != E) = false := by simp
      have hstep := met_step (X := X) hTe hi2 hP0p
      obtain ⟨M, hM⟩ : ∃ M, met P0 p X = M := ⟨_, rfl⟩
      have hM1 : M ≤ 1 := by rw [← hM]; unfold met; split <;> omega
      rw [hM] at hstep
      rw [hM]
      have HZ := hide (And.intro hpr (And.intro hd (And.intro hbel (And.intro hstep hP0p))))
      have HP2 := hide ((unhide OP2).below hbel)
      obtain ⟨V, hV⟩ : ∃ V, V = U.alloc (.cells #[.int .i64 (l : Int), .int .i64 (i : Int)] 23) := ⟨_, rfl⟩
      have v0 : V.cell? ⟨U.heap.size, 0, none⟩ = some (.int .i64 l) := by rw [hV]; simp
      have v1 : V.cell? ⟨U.heap.size, 1, none⟩ = some (.int .i64 i) := by rw [hV]; simp
      have sV : U.heap.size < V.heap.size := by rw [hV]; simp
      have bV : Below U.heap.size U V := by rw [hV]; exact (Below.refl _ _).alloc (Nat.le_refl _) _
      have HV := hide bV
      have HPV := hide ((unhide HP2).below bV)
      clear hst hcvd hcv3 hxk hcc hi2 hok hi3 hTe eA eB hd hl bV hE hms hEX hstep hM
      go_wp2
      rw [← hV]
      clear hV
      go_loopw [7, 28] (fun a j wq => ∃ jj : Nat, jj ≤ 33 ∧ j = .int .i64 jj ∧ a = .int .i64 ((M + (if l < jj ∧ X / 2 ^ l = i then 1 else 0) : Nat) : Int) ∧ Below V.heap.size V wq) (fun _ j _ => 33 - (intOf j).toNat)
      case atStart => exact ⟨0, by omega, rfl, by simp, Below.refl _ _⟩
      case round =>
        obtain ⟨jj, hjj, rfl, rfl, hbq⟩ := hrel
        have x0 := (hbq.cell (p := ⟨U.heap.size, 0, none⟩) (by exact sV)).trans v0
        have x1 := (hbq.cell (p := ⟨U.heap.size, 1, none⟩) (by exact sV)).trans v1
        have PQ := (unhide HPV).below hbq
        have sU : U.heap.size < wr.heap.size := Nat.lt_of_lt_of_le sV hbq.size
        have neU : ¬ U.heap.size = wr.heap.size := by omega
        have x0a : ∀ o : Obj, (wr.alloc o).cell? ⟨U.heap.size, 0, none⟩ = some (.int .i64 l) := fun o => (((Below.refl wr.heap.size wr).alloc (Nat.le_refl _) o).cell (p := ⟨U.heap.size, 0, none⟩) (by exact sU)).trans x0
        have x1a : ∀ o : Obj, (wr.alloc o).cell? ⟨U.heap.size, 1, none⟩ = some (.int .i64 i) := fun o => (((Below.refl wr.heap.size wr).alloc (Nat.le_refl _) o).cell (p := ⟨U.heap.size, 1, none⟩) (by exact sU)).trans x1
        by_cases hj : jj < 33
        · obtain ⟨y0c, y1c⟩ := PQ.get hj
          obtain ⟨F, hF⟩ : ∃ F, (if l < jj ∧ X / 2 ^ l = i then 1 else 0 : Nat) = F := ⟨_, rfl⟩
          have hF1 : F ≤ 1 := by rw [← hF]; split <;> omega
          rw [hF]
          have ji0 : (0 : Int) ≤ (jj : Int) := by omega
          have ji1 : (jj : Int) < 33 := by omega
          have HBQ := hide hbq
          by_cases hm : l = jj ∧ i = X / 2 ^ jj
          · have q3 := eqlS l i jj ((X / 2 ^ jj : Nat) : Int)
            have e1 : decide ((l : Int) = (jj : Int) ∧ (i : Int) = ((X / 2 ^ jj : Nat) : Int)) = true := by
              rw [decide_eq_true_eq]; exact ⟨congrArg _ hm.1, congrArg _ hm.2⟩
            rw [e1] at q3
            have hF2 : (if l < jj + 1 ∧ X / 2 ^ l = i then 1 else 0 : Nat) = F + 1 := by
              obtain ⟨hm1, hm2⟩ := hm
              rw [← hF, hm1, if_pos ⟨by omega, hm2.symm⟩, if_neg (by omega)]
            have HF := hide hF2
            obtain ⟨Y, hY⟩ : ∃ Y, X / 2 ^ jj = Y := ⟨_, rfl⟩
            rw [hY] at q3 y1c
            clear e1 hF hF2 hm hY PQ hbq
            go_wp2
            refine ⟨⟨jj + 1, by omega, by simp, ?_, below_sub (unhide HBQ) ((Below.refl _ _).alloc (Nat.le_refl _) _)⟩, by simp [intOf]; omega⟩
            rw [unhide HF]
            exact congrArg (Value.int IntKind.i64) (by omega)
          · have q3 := eqlS l i jj ((X / 2 ^ jj : Nat) : Int)
            have e1 : decide ((l : Int) = (jj : Int) ∧ (i : Int) = ((X / 2 ^ jj : Nat) : Int)) = false := by
              rw [decide_eq_false_iff_not]
              rintro ⟨a1, a2⟩
              exact hm ⟨Int.natCast_inj.1 a1, Int.natCast_inj.1 a2⟩
            rw [e1] at q3
            have hF2 : (if l < jj + 1 ∧ X / 2 ^ l = i then 1 else 0 : Nat) = F := by
              rw [← hF]
              by_cases c : l < jj ∧ X / 2 ^ l = i
              · rw [if_pos c, if_pos ⟨by omega, c.2⟩]
              · rw [if_neg c, if_neg]
                rintro ⟨c1, c2⟩
                by_cases c3 : l = jj
                · exact hm ⟨c3, by rw [← c3]; exact c2.symm⟩
                · exact c ⟨by omega, c2⟩
            have HF := hide hF2
            obtain ⟨Y, hY⟩ : ∃ Y, X / 2 ^ jj = Y := ⟨_, rfl⟩
            rw [hY] at q3 y1c
            clear e1 hF hF2 hm hY PQ hbq
            go_wp2
            refine ⟨⟨jj + 1, by omega, by simp, ?_, below_sub (unhide HBQ) ((Below.refl _ _).alloc (Nat.le_refl _) _)⟩, by simp [intOf]; omega⟩
            rw [unhide HF]
        · obtain rfl : jj = 33 := by omega
          obtain ⟨z0, z1⟩ := PQ.get (j := l) (by omega)
          obtain ⟨F, hF⟩ : ∃ F, (if l < 33 ∧ X / 2 ^ l = i then 1 else 0 : Nat) = F := ⟨_, rfl⟩
          have hF2 : (if X / 2 ^ l = i then 1 else 0 : Nat) = F := by
            rw [← hF]
            by_cases c : X / 2 ^ l = i
            · rw [if_pos c, if_pos ⟨by omega, c⟩]
            · rw [if_neg c, if_neg (fun g => c g.2)]
          rw [hF]
          have HF := hide hF2
          have dg1 : decide ((l : Int) < 33) = true := by simp; omega
          have dg2 : decide (0 ≤ (l : Int)) = true := by simp
          have li1 : (l : Int) < 33 := by omega
          have li2 : l < 33 := by omega
          have HBQ := hide hbq
          obtain ⟨Y, hY⟩ : ∃ Y, X / 2 ^ l = Y := ⟨_, rfl⟩
          rw [hY] at qe z1
          have w0 : ∀ n os, (grow (redrawn wr n) os).cell? ⟨U.heap.size, 0, none⟩ = some (.int .i64 l) := cell_regrown x0
          have w1x : ∀ n os, (grow (redrawn wr n) os).cell? ⟨U.heap.size, 1, none⟩ = some (.int .i64 i) := cell_regrown x1
          have w2x : ∀ n os, (grow (redrawn wr n) os).cell? ⟨PB, l * 2, none⟩ = some (.int .i64 l) := cell_regrown z0
          have w3x : ∀ n os, (grow (redrawn wr n) os).cell? ⟨PB, l * 2 + 1, none⟩ = some (.int .i64 Y) := cell_regrown z1
          clear hF hF2 hY PQ hbq
          go_wp2
          refine wp_region_quiet_below (by assumption) (by kernel_rfl) ?_
          repeat (go_big_quiet_step (first
            | (go_at_fn 16; refine Calls.regrown_of (h16 _))))
          refine wpQuiet_nil ?_
          intro _ hw'
          obtain ⟨⟨dq, osq⟩, hw''⟩ := hw'
          subst hw''
          go_wp2
          obtain ⟨hpr, hd, hbel, hstep, hP0p⟩ := unhide HZ
          have n1 := unhide HN
          rw [unhide HT] at n1
          rw [unhide HF] at hstep
          exact ⟨⟨k + 1, p + T, r - T, d ++ [(l, i)], by omega, by simp, by rw [hstep], by omega, by omega, n1, by simp [hd], below_sub hbel (below_sub (unhide HV) (below_sub (unhide HBQ) (below_regrown _ _ _)))⟩, by simp [intOf]; omega⟩
    · obtain rfl : r = 0 := by omega
      have hkn : k = n := by
        have := congrArg List.length hcvd
        rw [cover_zero, List.append_nil, (unhide HE).2, hd] at this
        exact this.symm
      subst hkn
      have ki1 : ¬ (k : Int) < (k : Int) := by omega
      have HB := hide hbel
      by_cases c : P0 ≤ X ∧ X < p
      · have em : met P0 p X = 1 := by unfold met; rw [if_pos c]
        rw [em]
        have c1 : x0 ≤ x := by omega
        have c2 : x ≤ y0 := by omega
        clear hcvd hd hpr hbel em c
        go_wp2
        go_ret
        exact ⟨rfl, below_sub (unhide B2) (unhide HB)⟩
      · have em : met P0 p X = 0 := by unfold met; rw [if_neg c]
        rw [em]
        by_cases c1 : x0 ≤ x
        · have c2 : ¬ x ≤ y0 := by omega
          clear hcvd hd hpr hbel em c
          go_wp2
          go_ret
          exact ⟨rfl, below_sub (unhide B2) (unhide HB)⟩
        · clear hcvd hd hpr hbel em c
          go_wp2
          go_ret
          exact ⟨rfl, below_sub (unhide B2) (unhide HB)⟩

theorem spanStabs_any (lo hi x : Int) (w : World) (hG : G w) : Calls Tryd.prog 6 #[.int .i64 lo, .int .i64 hi, .int .i64 x] w fun e w' => e = .returned (.bool true) ∧ Below w.heap.size w w' := by
  by_cases hxy : max lo (-2147483648) ≤ min hi 2147483647
  · by_cases hn : -2147483648 ≤ x ∧ x ≤ 2147483647
    · exact stabs_in lo hi x w hG hxy hn
    · exact stabs_out lo hi x w hG hxy hn
  · exact stabs_empty lo hi x w hG hxy

end Go.Proofs.YtjclojeihjgnkaaDoor
