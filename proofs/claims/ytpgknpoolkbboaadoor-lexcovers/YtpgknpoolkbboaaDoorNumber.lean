/- What the reference's Number returns: the number whose numeral the text is, or none. -/
import Derived.Test.YtpgknpoolkbboaaDoorRefText
import Derived.Test.YtpgknpoolkbboaaDoorBackPlain
namespace Go.Proofs.YtpgknpoolkbboaaDoor
open Go.RowKit

/-- One digit more. -/
def stepD (a : Nat) (c : UInt8) : Nat := if 48 ≤ c.toNat ∧ c.toNat ≤ 57 then a * 10 + (c.toNat - 48) else a
def dv (l : List UInt8) : Nat := l.foldl stepD 0
theorem dv_snoc (l : List UInt8) (c : UInt8) : dv (l ++ [c]) = stepD (dv l) c := by simp [dv]
theorem step_ge (a : Nat) (c : UInt8) : a ≤ stepD a c := by unfold stepD; split <;> omega
theorem fold_ge : ∀ (l : List UInt8) (a : Nat), a ≤ l.foldl stepD a
  | [], _ => Nat.le_refl _
  | c :: l, a => Nat.le_trans (step_ge a c) (fold_ge l _)
theorem dv_take (l : List UInt8) (k : Nat) : dv (l.take k) ≤ dv l := by
  conv => rhs; rw [← List.take_append_drop k l]
  unfold dv
  rw [List.foldl_append]
  exact fold_ge _ _
theorem dv_dec (u : Nat) : dv (Lib.decDigits u) = u := by
  induction u using Nat.strongRecOn with
  | _ u ih =>
    rw [Lib.decDigits]
    by_cases h : u < 10
    · rw [dif_pos h]
      have e : (UInt8.ofNat (48 + u)).toNat = 48 + u := by rw [UInt8.toNat_ofNat', Nat.mod_eq_of_lt (by omega)]
      simp only [dv, List.foldl_cons, List.foldl_nil, stepD, e]
      rw [if_pos (by omega)]; omega
    · rw [dif_neg h, dv_snoc, ih (u / 10) (by omega)]
      have e : (UInt8.ofNat (48 + u % 10)).toNat = 48 + u % 10 := by rw [UInt8.toNat_ofNat', Nat.mod_eq_of_lt (by omega)]
      simp only [stepD, e]
      rw [if_pos (by omega)]; omega
theorem dv_itoa (n : Int) : dv (Lib.itoa n) = n.natAbs := by
  unfold Lib.itoa
  by_cases h : n < 0
  · rw [if_pos h]
    show (Lib.decDigits n.natAbs).foldl stepD (stepD 0 45) = _
    rw [show stepD 0 45 = 0 from rfl]
    exact dv_dec _
  · rw [if_neg h, dv_dec]; omega
/-- A numeral of a value. -/
def Good (l : List UInt8) : Prop := ∃ n : Int, -2147483648 ≤ n ∧ n ≤ 2147483647 ∧ l = Lib.itoa n
theorem good_le {l : List UInt8} (h : Good l) (k : Nat) : dv (l.take k) ≤ 2147483648 := by
  obtain ⟨n, h1, h2, rfl⟩ := h
  have := dv_take (Lib.itoa n) k
  rw [dv_itoa] at this
  omega
theorem list_one (s : ByteArray) (h : 0 < s.size) : s.data.toList = s[0] :: s.data.toList.drop 1 := by
  conv => lhs; rw [← List.drop_zero (l := s.data.toList)]
  rw [List.drop_eq_getElem_cons (by simpa using h)]; rfl
theorem nDigits_ten {u : Nat} (h : u < 10000000000) : Lib.nDigits u ≤ 10 := by
  have := Lib.decDigits_length u
  by_cases h0 : u < 10
  · rw [Lib.nDigits_small h0]; omega
  · rw [Lib.nDigits_big h0]
    have key : ∀ (k v : Nat), v < 10 ^ (k + 1) → Lib.nDigits v ≤ k + 1 := by
      intro k
      induction k with
      | zero => intro v hv; rw [Lib.nDigits_small (by simpa using hv)]; omega
      | succ k ih =>
        intro v hv
        by_cases hv0 : v < 10
        · rw [Lib.nDigits_small hv0]; omega
        · rw [Lib.nDigits_big hv0]
          have := ih (v / 10) (by rw [Nat.pow_succ] at hv; omega)
          omega
    have := key 8 (u / 10) (by omega)
    omega
theorem w64_rng (n : Int) : -9223372036854775808 ≤ wrap64 n ∧ wrap64 n ≤ 9223372036854775807 := by unfold wrap64; omega
theorem w64_in {n : Int} (h0 : -9223372036854775808 ≤ n) (h1 : n ≤ 9223372036854775807) : wrap64 n = n := by unfold wrap64; omega

theorem num_step {l : List UInt8} {k : Nat} {c : UInt8} {N : Int} (ht : l.take (k + 1) = l.take k ++ [c]) (hg : Good l → N = dv (l.take k)) (c0 : 48 ≤ (c.toNat : Int)) (c1 : (c.toNat : Int) ≤ 57) :
    Good l → wrap64 (wrap64 (N * 10) + ((c.toNat : Int) - 48)) = ((dv (l.take (k + 1)) : Nat) : Int) := by
  intro h
  have h1 := good_le h k
  have e := hg h
  rw [ht, dv_snoc]
  unfold stepD
  rw [if_pos (by omega), e, w64_in (n := ((dv (l.take k) : Nat) : Int) * 10) (by omega) (by omega), w64_in (by omega) (by omega)]
  omega
theorem num_skip {l : List UInt8} {k : Nat} {c : UInt8} {N : Int} (ht : l.take (k + 1) = l.take k ++ [c]) (hg : Good l → N = dv (l.take k)) (hc : ¬ (48 ≤ (c.toNat : Int) ∧ (c.toNat : Int) ≤ 57)) :
    Good l → N = ((dv (l.take (k + 1)) : Nat) : Int) := by
  intro h
  rw [ht, dv_snoc, hg h]
  unfold stepD
  rw [if_neg (by omega)]
theorem head_neg {s : ByteArray} (h0 : 0 < s.size) {n : Int} (h : s.data.toList = Lib.itoa n) : (s[0].toNat : Int) = 45 ↔ n < 0 := by
  have hl := list_one s h0
  rw [h] at hl
  unfold Lib.itoa at hl
  by_cases hn : n < 0
  · rw [if_pos hn] at hl
    simp only [List.cons.injEq] at hl
    rw [← hl.1]
    exact ⟨fun _ => hn, fun _ => rfl⟩
  · rw [if_neg hn] at hl
    have := dec_digit n.toNat s[0] (by rw [hl]; exact List.mem_cons_self)
    constructor
    · intro e; omega
    · intro e; exact absurd e hn
/-- What Number answers. -/
def NumOf (l : List UInt8) (e : Ending) : Prop :=
  (∃ n : Int, -2147483648 ≤ n ∧ n ≤ 2147483647 ∧ l = Lib.itoa n ∧ e = .returned (.tuple #[.int .i64 n, .bool true])) ∨ (¬ Good l ∧ e = .returned (.tuple #[.int .i64 0, .bool false]))

set_option maxRecDepth 100000 in
set_option maxHeartbeats 1000000 in
theorem number_loop (s : ByteArray) (w : World) (h0 : 0 < s.size) (h20 : s.size ≤ 20) :
    Calls Tryd.prog 60 #[.string s, .int .i64 (-2147483648), .int .i64 2147483647] w fun e w' => NumOf s.data.toList e ∧ Below w.heap.size w w' := by
  have i0 : (0 : Int) < (s.size : Int) := by omega
  have i1 : (s.size : Int) ≤ 20 := by omega
  have he : s.toList.isEmpty = false := by cases h : s.toList.isEmpty; rfl; exact absurd ((empty_iff s).1 h) (by omega)
  go_enter Tryd.func60, Tryd.ntmps60
  go_wp2
  go_loop [8, 9] (fun a i => ∃ (k : Nat) (N : Int), k ≤ s.size ∧ i = .int .i64 k ∧ a = .int .i64 N ∧ -9223372036854775808 ≤ N ∧ N ≤ 9223372036854775807 ∧ (Good s.data.toList → N = dv (s.data.toList.take k))) (fun _ i => s.size - (intOf i).toNat)
  case atStart => exact ⟨0, 0, by omega, rfl, rfl, by omega, by omega, fun _ => rfl⟩
  case round =>
    obtain ⟨k, N, hk, rfl, rfl, hN0, hN1, hg⟩ := hrel
    have Hg := hide (And.intro hN0 (And.intro hN1 hg))
    clear hN0 hN1 hg
    by_cases hlt : k < s.size
    · have b0 : (0 : Int) ≤ (k : Int) := by omega
      have b1 : (k : Int) < (s.size : Int) := by omega
      have hts := hide (take_snoc s k hlt)
      by_cases hc : 48 ≤ (s[k].toNat : Int) ∧ (s[k].toNat : Int) ≤ 57
      · have Hc := hide (num_step (unhide hts) (unhide Hg).2.2 hc.1 hc.2)
        obtain ⟨c0, c1⟩ := hc
        go_wp2
        exact ⟨⟨k + 1, _, by omega, by go_num, rfl, (w64_rng _).1, (w64_rng _).2, unhide Hc⟩, by simp [intOf]; omega⟩
      · have Hc := hide (num_skip (unhide hts) (unhide Hg).2.2 hc)
        have hcase : ¬ 48 ≤ (s[k].toNat : Int) ∨ (48 ≤ (s[k].toNat : Int) ∧ ¬ (s[k].toNat : Int) ≤ 57) := by omega
        clear hc
        rcases hcase with c0 | ⟨c0, c1⟩
        all_goals
          go_wp2
          exact ⟨⟨k + 1, N, by omega, by go_num, rfl, (unhide Hg).1, (unhide Hg).2.1, unhide Hc⟩, by simp [intOf]; omega⟩
    · have hN := hide (show Good s.data.toList → N = dv s.data.toList by
        have h := (unhide Hg).2.2
        rw [List.take_of_length_le (by simp; omega)] at h
        exact h)
      cases hm : ((s[0].toNat : Int) == 45)
      · have hMn := hide (show ∀ n : Int, -2147483648 ≤ n → n ≤ 2147483647 → s.data.toList = Lib.itoa n → N = n from fun n h1 h2 h3 => by
          have h4 := unhide hN ⟨n, h1, h2, h3⟩
          rw [h3, dv_itoa] at h4
          have h5 := head_neg h0 h3
          have h6 : ¬ (s[0].toNat : Int) = 45 := by simpa using hm
          omega)
        have hdec := fun w => decimal_any N w (unhide Hg).1 (unhide Hg).2.1
        go_wp2_with fail
        by_cases hs : itoaB N = s
        · by_cases r : -2147483648 ≤ N ∧ N ≤ 2147483647
          · obtain ⟨r1, r2⟩ := r
            have Hs := hide (show s.data.toList = Lib.itoa N by rw [← hs]; rfl)
            rw [hs] at hdec
            clear hs
            go_wp2_with (go_at_call 94; refine (hdec _).mono ?_; rintro e w1 ⟨rfl, hb⟩)
            go_ret2
            exact ⟨Or.inl ⟨N, r1, r2, unhide Hs, rfl⟩, hb⟩
          · have hno := hide (show ¬ Good s.data.toList from fun ⟨n, h1, h2, h3⟩ => r (by rw [unhide hMn n h1 h2 h3]; exact ⟨h1, h2⟩))
            have hcase : N < -2147483648 ∨ (-2147483648 ≤ N ∧ 2147483647 < N) := by omega
            rw [hs] at hdec
            clear hs r
            rcases hcase with r1 | ⟨r1, r2⟩
            all_goals
              go_wp2_with (go_at_call 94; refine (hdec _).mono ?_; rintro e w1 ⟨rfl, hb⟩)
              go_ret2
              exact ⟨Or.inr ⟨unhide hno, rfl⟩, hb⟩
        · have hno := hide (show ¬ Good s.data.toList from fun ⟨n, h1, h2, h3⟩ => hs (by rw [unhide hMn n h1 h2 h3]; exact WideShapes.bytes_inj h3.symm))
          have hd := toList_ne hs
          clear hs
          generalize itoaB N = T at hdec hd
          go_wp2_with (go_at_call 94; refine (hdec _).mono ?_; rintro e w1 ⟨rfl, hb⟩)
          go_ret2
          exact ⟨Or.inr ⟨unhide hno, rfl⟩, hb⟩
      · have hMn := hide (show ∀ n : Int, -2147483648 ≤ n → n ≤ 2147483647 → s.data.toList = Lib.itoa n → wrap64 (-N) = n from fun n h1 h2 h3 => by
          have h4 := unhide hN ⟨n, h1, h2, h3⟩
          rw [h3, dv_itoa] at h4
          have h5 := head_neg h0 h3
          have h6 : (s[0].toNat : Int) = 45 := by simpa using hm
          rw [w64_in (by omega) (by omega)]
          omega)
        have hdec := fun w => decimal_any (wrap64 (-N)) w (w64_rng _).1 (w64_rng _).2
        go_wp2_with fail
        generalize wrap64 (-N) = M at hdec hMn ⊢
        by_cases hs : itoaB M = s
        · by_cases r : -2147483648 ≤ M ∧ M ≤ 2147483647
          · obtain ⟨r1, r2⟩ := r
            have Hs := hide (show s.data.toList = Lib.itoa M by rw [← hs]; rfl)
            rw [hs] at hdec
            clear hs
            go_wp2_with (go_at_call 94; refine (hdec _).mono ?_; rintro e w1 ⟨rfl, hb⟩)
            go_ret2
            exact ⟨Or.inl ⟨M, r1, r2, unhide Hs, rfl⟩, hb⟩
          · have hno := hide (show ¬ Good s.data.toList from fun ⟨n, h1, h2, h3⟩ => r (by rw [unhide hMn n h1 h2 h3]; exact ⟨h1, h2⟩))
            have hcase : M < -2147483648 ∨ (-2147483648 ≤ M ∧ 2147483647 < M) := by omega
            rw [hs] at hdec
            clear hs r
            rcases hcase with r1 | ⟨r1, r2⟩
            all_goals
              go_wp2_with (go_at_call 94; refine (hdec _).mono ?_; rintro e w1 ⟨rfl, hb⟩)
              go_ret2
              exact ⟨Or.inr ⟨unhide hno, rfl⟩, hb⟩
        · have hno := hide (show ¬ Good s.data.toList from fun ⟨n, h1, h2, h3⟩ => hs (by rw [unhide hMn n h1 h2 h3]; exact WideShapes.bytes_inj h3.symm))
          have hd := toList_ne hs
          clear hs
          generalize itoaB M = T at hdec hd
          go_wp2_with (go_at_call 94; refine (hdec _).mono ?_; rintro e w1 ⟨rfl, hb⟩)
          go_ret2
          exact ⟨Or.inr ⟨unhide hno, rfl⟩, hb⟩

theorem good_len {l : List UInt8} (h : Good l) : 1 ≤ l.length ∧ l.length ≤ 20 := by
  obtain ⟨n, h1, h2, rfl⟩ := h
  unfold Lib.itoa
  split
  · have h3 := Lib.decDigits_length n.natAbs
    have h4 : Lib.nDigits n.natAbs ≤ 10 := nDigits_ten (by omega)
    simp only [List.length_cons, h3]; omega
  · have h3 := Lib.decDigits_length n.toNat
    have h4 : Lib.nDigits n.toNat ≤ 10 := nDigits_ten (by omega)
    have h5 := Lib.nDigits_pos n.toNat
    rw [h3]; omega
set_option maxHeartbeats 400000 in
theorem number_out (s : ByteArray) (w : World) (h : ¬ (0 < s.size ∧ s.size ≤ 20)) (hmax : s.size ≤ 1048576) :
    Calls Tryd.prog 60 #[.string s, .int .i64 (-2147483648), .int .i64 2147483647] w fun e w' => e = .returned (.tuple #[.int .i64 0, .bool false]) ∧ Below w.heap.size w w' := by
  by_cases h0 : s.size = 0
  · have he : s.toList.isEmpty = true := (empty_iff s).2 h0
    clear h h0
    go_enter Tryd.func60, Tryd.ntmps60
    go_wp2
    go_ret2
    exact ⟨rfl, Below.refl _ _⟩
  · have he : s.toList.isEmpty = false := by cases h : s.toList.isEmpty; rfl; exact absurd ((empty_iff s).1 h) (by omega)
    have i1 : (20 : Int) < (s.size : Int) := by omega
    clear h h0
    go_enter Tryd.func60, Tryd.ntmps60
    go_wp2
    go_ret2
    exact ⟨rfl, Below.refl _ _⟩
theorem number_any (s : ByteArray) (w : World) (hmax : s.size ≤ 1048576) :
    Calls Tryd.prog 60 #[.string s, .int .i64 (-2147483648), .int .i64 2147483647] w fun e w' => NumOf s.data.toList e ∧ Below w.heap.size w w' := by
  by_cases h : 0 < s.size ∧ s.size ≤ 20
  · exact number_loop s w h.1 h.2
  · refine (number_out s w h hmax).mono fun e w' ⟨he, hb⟩ => ⟨Or.inr ⟨fun hg => h ?_, he⟩, hb⟩
    have := good_len hg
    simp only [Array.length_toList] at this
    have h4 : s.data.size = s.size := rfl
    omega
end Go.Proofs.YtpgknpoolkbboaaDoor
