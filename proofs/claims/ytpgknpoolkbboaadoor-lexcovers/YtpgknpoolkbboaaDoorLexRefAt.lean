/- What the reference's token answers, against the plain function. -/
import Derived.Test.YtpgknpoolkbboaaDoorLexRefTok
namespace Go.Proofs.YtpgknpoolkbboaaDoor
open Go.RowKit

/-- The reference's answer: the token and true, or something and false. -/
def RefTok (i : Nat) (o : Option (Int × Nat × Int × ByteArray)) (e : Ending) : Prop :=
  (o ≠ none ∧ e = .returned (tokV i o)) ∨ (o = none ∧ ∃ (a b c d : Int) (x : ByteArray), e = .returned (.tuple #[.agg #[.int .i64 a, .int .i64 b, .int .i64 c, .int .i64 d, .string x], .bool false]))
theorem itoa_head (n : Int) : ∃ c r, Lib.itoa n = c :: r ∧ c ≠ 34 := by
  have h := itoa_noquote n
  cases hl : Lib.itoa n with
  | nil =>
    have := Lib.nDigits_pos n.natAbs
    have h2 := Lib.decDigits_length n.natAbs
    have h3 := Lib.nDigits_pos n.toNat
    have h4 := Lib.decDigits_length n.toNat
    unfold Lib.itoa at hl
    split at hl
    · cases hl
    · rw [hl] at h4; simp at h4; omega
  | cons c r =>
    refine ⟨c, r, rfl, fun e => ?_⟩
    rw [hl, e] at h
    simp [Lib.hasPrefix] at h
/-- A value whose text begins with no quotation mark is a number. -/
theorem pv_isnum {c : UInt8} {r : List UInt8} {q : Int × Int × ByteArray} (h : c ≠ 34) (hq : pv (c :: r) = some q) : ∃ n, q = (1, n, ⟨#[]⟩) ∧ -2147483648 ≤ n ∧ n ≤ 2147483647 ∧ c :: r = Lib.itoa n := by
  rcases isVal_cases (pv_of hq) with h1 | ⟨t, _, _, e⟩
  · exact h1
  · injection e with e1; exact absurd e1 h
theorem pv_isword {r : List UInt8} {q : Int × Int × ByteArray} (hq : pv (34 :: r) = some q) : ∃ t : ByteArray, q = (2, 0, t) ∧ t.size ≤ 64 ∧ 34 :: r = quoteL t.data.toList := by
  rcases isVal_cases (pv_of hq) with ⟨n, _, _, _, e⟩ | h1
  · obtain ⟨c, r', e', hc⟩ := itoa_head n
    rw [e'] at e
    injection e with e1; exact absurd e1.symm hc
  · exact h1
theorem refTok_any (s : ByteArray) (i : Nat) (w : World) (hi : i < s.size) (hs : s.size ≤ 1000000) :
    Calls Tryd.prog 30 #[.string s, .int .i64 i] w fun e w' => RefTok i (tokL (s.data.toList.drop i)) e ∧ Below w.heap.size w w' := by
  have hd := drop_at s i hi
  have hes : ∀ j, (s.extract i j).size ≤ 1048576 := fun j => by rw [ByteArray.size_extract]; omega
  cases hL : isLet (s[i].toNat : Int) with
  | true =>
    have hx := ext_take s i (rl okB (s.data.toList.drop i))
    cases hn : nameOk (s.extract i (i + rl okB (s.data.toList.drop i))) with
    | true =>
      have := rt_name s i w hi hs hL _ rfl _ hn
      rw [hx, hd] at hn
      rw [hx] at this
      have ht := tokL_name hL hn
      rw [← hd] at ht
      rw [ht]
      exact this.mono fun e w' ⟨he, hb⟩ => ⟨Or.inl ⟨by simp, he⟩, hb⟩
    | false =>
      have := rt_name s i w hi hs hL _ rfl _ hn
      rw [hx, hd] at hn
      have ht := tokL_noname hL hn
      rw [← hd] at ht
      rw [ht]
      exact this.mono fun e w' ⟨he, hb⟩ => ⟨Or.inr ⟨rfl, _, _, _, _, _, he⟩, hb⟩
  | false =>
    cases hN : (s[i] == 45 || isDig (s[i].toNat : Int)) with
    | true =>
      have hx := ext_list s i (rl isDig (s.data.toList.drop (i + 1)) + 1)
      have e1 : i + (rl isDig (s.data.toList.drop (i + 1)) + 1) = i + 1 + rl isDig (s.data.toList.drop (i + 1)) := by omega
      have hcase : ((s[i].toNat : Int) == 45) = true ∨ (((s[i].toNat : Int) == 45) = false ∧ isDig (s[i].toNat : Int) = true) := by
        rw [dash_eq] at hN
        cases h : ((s[i].toNat : Int) == 45) with
        | true => exact Or.inl rfl
        | false => rw [h] at hN; exact Or.inr ⟨rfl, by simpa using hN⟩
      have h34 : s[i] ≠ 34 := by
        intro h
        rw [h] at hN
        simp [isDig] at hN
      rw [e1] at hx
      have hall : ∀ (n : Int) (b : Bool), (∀ w, Calls Tryd.prog 60 #[.string (s.extract i (i + 1 + rl isDig (s.data.toList.drop (i + 1)))), .int .i64 (-2147483648), .int .i64 2147483647] w fun e w' => e = .returned (.tuple #[.int .i64 n, .bool b]) ∧ Below w.heap.size w w') → Calls Tryd.prog 30 #[.string s, .int .i64 i] w fun e w' => e = .returned (.tuple #[.agg #[.int .i64 2, .int .i64 i, .int .i64 ((i + 1 + rl isDig (s.data.toList.drop (i + 1)) : Nat) : Int), .int .i64 n, .string ⟨#[]⟩], .bool b]) ∧ Below w.heap.size w w' := by
        intro n b h
        rcases hcase with h1 | ⟨h1, hD⟩
        · exact rt_num1 s i w hi hs hL h1 _ rfl n b h
        · exact rt_num2 s i w hi hs hL h1 hD _ rfl n b h
      cases hq : pv ((s.data.toList.drop i).take (rl isDig (s.data.toList.drop (i + 1)) + 1)) with
      | some q =>
        have hq' := hq
        rw [hd, List.take_succ_cons] at hq'
        obtain ⟨n, rfl, n1, n2, n3⟩ := pv_isnum h34 hq'
        rw [← List.take_succ_cons, ← hd, ← hx] at n3
        have ht := hq
        rw [hd] at ht
        have ht := tokL_num hL hN ht
        rw [← hd] at ht
        rw [ht]
        refine (hall n true (fun w => num_yes _ n n1 n2 n3 w (hes _))).mono fun e w' ⟨he, hb⟩ => ⟨Or.inl ⟨by simp, ?_⟩, hb⟩
        rw [he]
        simp only [tokV]
        rw [e1]
        rfl
      | none =>
        have hng : ¬ Good (s.extract i (i + 1 + rl isDig (s.data.toList.drop (i + 1)))).data.toList := by
          rintro ⟨n, n1, n2, n3⟩
          rw [hx] at n3
          exact pv_none hq _ (by rw [n3]; exact isVal_num n1 n2)
        have ht := hq
        rw [hd] at ht
        have ht := tokL_nonum hL hN ht
        rw [← hd] at ht
        rw [ht]
        exact (hall 0 false (fun w => num_no _ hng w (hes _))).mono fun e w' ⟨he, hb⟩ => ⟨Or.inr ⟨rfl, _, _, _, _, _, he⟩, hb⟩
    | false =>
      have hN' := hN
      rw [Bool.or_eq_false_iff] at hN'
      obtain ⟨hq, hD⟩ := hN'
      rw [dash_eq] at hq
      cases hm : ((s[i].toNat : Int) == 34) with
      | true =>
        have hm' : (s[i] == 34) = true := by rw [mark_eq]; exact hm
        have h34 : s[i] = 34 := by simpa using hm'
        cases hw : wl false (s.data.toList.drop (i + 1)) with
        | some n =>
          have hj : wR s (i + 1) = i + (n + 1) := by unfold wR; rw [hw]; simp only; omega
          have hle := wl_le _ _ _ hw
          simp only [List.length_drop, Array.length_toList] at hle
          have h4 : s.data.size = s.size := rfl
          have hx := ext_list s i (n + 1)
          cases hp : pv ((s.data.toList.drop i).take (n + 1)) with
          | some q =>
            have hp' := hp
            rw [hd, List.take_succ_cons, h34] at hp'
            obtain ⟨t, rfl, t1, t2⟩ := pv_isword hp'
            rw [← h34, ← List.take_succ_cons, ← hd, ← hx] at t2
            rw [hd] at hp
            have ht := tokL_word hL hN hm' hw hp
            rw [← hd] at ht
            rw [ht]
            refine (rt_word s i w hi hs hL hq hD hm _ hj (by omega) (by omega) 2 0 0 t true rfl (fun w => ?_)).mono fun e w' ⟨he, hb⟩ => ⟨Or.inl ⟨by simp, ?_⟩, hb⟩
            · have := refParse_word (s.extract i (i + (n + 1))) t.data.toList t2 (by simpa using t1) w (hes _)
              simpa using this
            · rw [he]; rfl
          | none =>
            have hpn := hp
            rw [← hx] at hpn
            rw [hd] at hp
            have ht := tokL_noword hL hN hm' hw hp
            rw [← hd] at ht
            rw [ht]
            refine (rt_word s i w hi hs hL hq hD hm _ hj (by omega) (by omega) 0 0 10 ⟨#[]⟩ false rfl (fun w => ?_)).mono fun e w' ⟨he, hb⟩ => ⟨Or.inr ⟨rfl, _, _, _, _, _, he⟩, hb⟩
            have hng : ¬ Good (s.extract i (i + (n + 1))).data.toList := by
              rintro ⟨m, m1, m2, m3⟩
              exact pv_none hpn _ (by rw [m3]; exact isVal_num m1 m2)
            by_cases hqt : ∃ t, (s.extract i (i + (n + 1))).data.toList = quoteL t
            · obtain ⟨t, hqt⟩ := hqt
              by_cases h64 : t.length ≤ 64
              · exfalso
                refine pv_none hpn (2, 0, ⟨t.toArray⟩) ?_
                rw [hqt]
                have := isVal_word (t := ⟨t.toArray⟩) (by simpa [ByteArray.size] using h64)
                simpa using this
              · exact refParse_long _ t hqt h64 w (hes _)
            · exact refParse_none _ hng (fun t h => hqt ⟨t, h⟩) w (hes _)
        | none =>
          have hj : wR s (i + 1) = 0 := by unfold wR; rw [hw]
          have ht := tokL_noend hL hN hm' hw
          rw [← hd] at ht
          rw [ht]
          exact (rt_noend s i w hi hs hL hq hD hm hj).mono fun e w' ⟨he, hb⟩ => ⟨Or.inr ⟨rfl, _, _, _, _, _, he⟩, hb⟩
      | false =>
        have hm' : (s[i] == 34) = false := by rw [mark_eq]; exact hm
        cases hS : isSign s[i] with
        | true =>
          have ht := tokL_sign (r := s.data.toList.drop (i + 1)) hL hN hm' hS
          rw [← hd] at ht
          rw [ht]
          have := rt_sign s i w hi hs hL hq hD hm _ hS
          have hx := ext_take s i 1
          rw [hd] at hx
          rw [hx] at this
          exact this.mono fun e w' ⟨he, hb⟩ => ⟨Or.inl ⟨by simp, he⟩, hb⟩
        | false =>
          have ht := tokL_nosign (r := s.data.toList.drop (i + 1)) hL hN hm' hS
          rw [← hd] at ht
          rw [ht]
          exact (rt_sign s i w hi hs hL hq hD hm _ hS).mono fun e w' ⟨he, hb⟩ => ⟨Or.inr ⟨rfl, _, _, _, _, _, he⟩, hb⟩
end Go.Proofs.YtpgknpoolkbboaaDoor
