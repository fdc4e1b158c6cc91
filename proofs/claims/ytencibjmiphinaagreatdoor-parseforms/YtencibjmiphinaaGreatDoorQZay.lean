/- What the reference's token answers, against the plain function. -/
import Derived.Test.YtencibjmiphinaaGreatDoorQLxLexRefTok
import Derived.Test.YtencibjmiphinaaGreatDoorQZax
import Derived.Test.YtencibjmiphinaaGreatDoorQZao
namespace Go.Proofs.YtencibjmiphinaaGreatDoor.Lx
open Go.RowKit

/-- The reference's answer: the token and true, or something and false. -/
def RefTok (i : Nat) (o : Option (Int × Nat × Int × ByteArray)) (e : Ending) : Prop :=
  (o ≠ none ∧ e = .returned (tokV i o)) ∨ (o = none ∧ ∃ (a b c d : Int) (x : ByteArray), e = .returned (.tuple #[.agg #[.int .i64 a, .int .i64 b, .int .i64 c, .int .i64 d, .string x], .bool false]))
theorem itoa_head (n : Int) : ∃ c r, Lib.itoa n = c :: r ∧ c ≠ 34 := by
  have h := itoa_noquote n
  cases hl : Lib.itoa n with
  | nil =>
    have := Lib.nDigits_pos n.natAbs
    have h2 := Lib.decDigits_length n.natAbs
    have h3 := Lib.nDigits_pos n.toNat
    have h4 := Lib.decDigits_length n.toNat
    unfold Lib.itoa at hl
    split at hl
    · cases hl
    · rw [hl] at h4; simp at h4; omega
  | cons c r =>
    refine ⟨c, r, rfl, fun e => ?_⟩
    rw [hl, e] at h
    simp [Lib.hasPrefix] at h
/-- A value whose text begins with no quotation mark is a number. -/
theorem pv_isnum {c : UInt8} {r : List UInt8} {q : Int × Int × ByteArray} (h : c ≠ 34) (hq : pv (c :: r) = some q) : ∃ n, q = (1, n, ⟨#[]⟩) ∧ -2147483648 ≤ n ∧ n ≤ 2147483647 ∧ c :: r = Lib.itoa n := by
  rcases isVal_cases (pv_of hq) with h1 | ⟨t, _, _, e⟩
  · exact h1
  · injection e with e1; exact absurd e1 h
theorem pv_isword {r : List UInt8} {q : Int × Int × ByteArray} (hq : pv (34 :: r) = some q) : ∃ t : ByteArray, q = (2, 0, t) ∧ t.size ≤ 64 ∧ 34 :: r = quoteL t.data.toList := by
  rcases isVal_cases (pv_of hq) with ⟨n, _, _, _, e⟩ | h1
  · obtain ⟨c, r', e', hc⟩ := itoa_head n
    rw [e'] at e
    injection e with e1; exact absurd e1.symm hc
  · exact h1
theorem refTok_any (s : ByteArray) (i : Nat) (w : World) (hi : i < s.size) (hs : s.size ≤ 1000000) :
    Calls Tryz.prog 55 #[.string s, .int .i64 i] w fun e w' => RefTok i (tokL (s.data.toList.drop i)) e ∧ Below w.heap.size w w' := by
  have hd := drop_at s i hi
  have hes : ∀ j, (s.extract i j).size ≤ 1048576 := fun j => by rw [ByteArray.size_extract]; omega
  cases hL : isLet (s[i].toNat : Int) with
  | true =>
    have hx := ext_take s i (rl okB (s.data.toList.drop i))
    cases hn : nameOk (s.extract i (i + rl okB (s.data.toList.drop i))) with
    | true =>
      have := rt_name s i w hi hs hL _ rfl _ hn
      rw [hx, hd] at hn
      rw [hx] at this
      have ht := tokL_name hL hn
      rw [← hd] at ht
      rw [ht]
      exact this.mono fun e w' ⟨he, hb⟩ => ⟨Or.inl ⟨by simp, he⟩, hb⟩
    | false =>
      have := rt_name s i w hi hs hL _ rfl _ hn
      rw [hx, hd] at hn
      have ht := tokL_noname hL hn
      rw [← hd] at ht
      rw [ht]
      exact this.mono fun e w' ⟨he, hb⟩ => ⟨Or.inr ⟨rfl, _, _, _, _, _, he⟩, hb⟩
  | false =>
    cases hN : (s[i] == 45 || isDig (s[i].toNat : Int)) with
    | true =>
      have hx := ext_list s i (rl isDig (s.data.toList.drop (i + 1)) + 1)
      have e1 : i + (rl isDig (s.data.toList.drop (i + 1)) + 1) = i + 1 + rl isDig (s.data.toList.drop (i + 1)) := by omega
      have hcase : ((s[i].toNat : Int) == 45) = true ∨ (((s[i].toNat : Int) == 45) = false ∧ isDig (s[i].toNat : Int) = true) := by
        rw [dash_eq] at hN
        cases h : ((s[i].toNat : Int) == 45) with
        | true => exact Or.inl rfl
        | false => rw [h] at hN; exact Or.inr ⟨rfl, by simpa using hN⟩
      have h34 : s[i] ≠ 34 := by
        intro h
        rw [h] at hN
        simp [isDig] at hN
      rw [e1] at hx
      have hall : ∀ (n : Int) (b : Bool), (∀ w, Calls Tryz.prog 96 #[.string (s.extract i (i + 1 + rl isDig (s.data.toList.drop (i + 1)))), .int .i64 (-2147483648), .int .i64 2147483647] w fun e w' => e = .returned (.tuple #[.int .i64 n, .bool b]) ∧ Below w.heap.size w w') → Calls Tryz.prog 55 #[.string s, .int .i64 i] w fun e w' => e = .returned (.tuple #[.agg #[.int .i64 2, .int .i64 i, .int .i64 ((i + 1 + rl isDig (s.data.toList.drop (i + 1)) : Nat) : Int), .int .i64 n, .string ⟨#[]⟩], .bool b]) ∧ Below w.heap.size w w' := by
        intro n b h
        rcases hcase with h1 | ⟨h1, hD⟩
        · exact rt_num1 s i w hi hs hL h1 _ rfl n b h
        · exact rt_num2 s i w hi hs hL h1 hD _ rfl n b h
      cases hq : pv ((s.data.toList.drop i).take (rl isDig (s.data.toList.drop (i + 1)) + 1)) with
      | some q =>
        have hq' := hq
        rw [hd, List.take_succ_cons] at hq'
        obtain ⟨n, rfl, n1, n2, n3⟩ := pv_isnum h34 hq'
        rw [← List.take_succ_cons, ← hd, ← hx] at n3
        have ht := hq
        rw [hd] at ht
        have ht := tokL_num hL hN ht
        rw [← hd] at ht
        rw [ht]
        refine (hall n true (fun w => num_yes _ n n1 n2 n3 w (hes _))).mono fun e w' ⟨he, hb⟩ => ⟨Or.inl ⟨by simp, ?_⟩, hb⟩
        rw [he]
        simp only [tokV]
        rw [e1]
        rfl
      | none =>
        have hng : ¬ Good (s.extract i (i + 1 + rl isDig (s.data.toList.drop (i + 1)))).data.toList := by
          rintro ⟨n, n1, n2, n3⟩
          rw [hx] at n3
          exact pv_none hq _ (by rw [n3]; exact isVal_num n1 n2)
        have ht := hq
        rw [hd] at ht
        have ht := tokL_nonum hL hN ht
        rw [← hd] at ht
        rw [ht]
        exact (hall 0 false (fun w => num_no _ hng w (hes _))).mono fun e w' ⟨he, hb⟩ => ⟨Or.inr ⟨rfl, _, _, _, _, _, he⟩, hb⟩
    | false =>
      have hN' := hN
      rw [Bool.or_eq_false_iff] at hN'
      obtain ⟨hq, hD⟩ := hN'
      rw [dash_eq] at hq
      cases hm : ((s[i].toNat : Int) == 34) with
      | true =>
        have hm' : (s[i] == 34) = true := by rw [mark_eq]; exact hm
        have h34 : s[i] = 34 := by simpa using hm'
        cases hw : wl false (s.data.toList.drop (i + 1)) with
        | some n =>
          have hj : wR s (i + 1) = i + (n + 1) := by unfold wR; rw [hw]; simp only; omega
          have hle := wl_le _ _ _ hw
          simp only [List.length_drop, Array.length_toList] at hle
          have h4 : s.data.size = s.size := rfl
          have hx := ext_list s i (n + 1)
          cases hp : pv ((s.data.toList.drop i).take (n + 1)) with
          | some q =>
            have hp' := hp
            rw [hd, List.take_succ_cons, h34] at hp'
            obtain ⟨t, rfl, t1, t2⟩ := pv_isword hp'
            rw [← h34, ← List.take_succ_cons, ← hd, ← hx] at t2
            rw [hd] at hp
            have ht := tokL_word hL hN hm' hw hp
            rw [← hd] at ht
            rw [ht]
            refine (rt_word s i w hi hs hL hq hD hm _ hj (by omega) (by omega) 2 0 0 t true rfl (fun w => ?_)).mono fun e w' ⟨he, hb⟩ => ⟨Or.inl ⟨by simp, ?_⟩, hb⟩
            · have := refParse_word (s.extract i (i + (n + 1))) t.data.toList t2 (by simpa using t1) w (hes _)
              simpa using this
            · rw [he]; rfl
          | none =>
            have hpn := hp
            rw [← hx] at hpn
            rw [hd] at hp
            have ht := tokL_noword hL hN hm' hw hp
            rw [← hd] at ht
            rw [ht]
            refine (rt_word s i w hi hs hL hq hD hm _ hj (by omega) (by omega) 0 0 10 ⟨#[]⟩ false rfl (fun w => ?_)).mono fun e w' ⟨he, hb⟩ => ⟨Or.inr ⟨rfl, _, _, _, _, _, he⟩, hb⟩
            have hng : ¬ Good (s.extract i (i + (n + 1))).data.toList := by
              rintro ⟨m, m1, m2, m3⟩
              exact pv_none hpn _ (by rw [m3]; exact isVal_num m1 m2)
            by_cases hqt : ∃ t, (s.extract i (i + (n + 1))).data.toList = quoteL t
            · obtain ⟨t, hqt⟩ := hqt
              by_cases h64 : t.length ≤ 64
              · exfalso
                refine pv_none hpn (2, 0, ⟨t.toArray⟩) ?_
                rw [hqt]
                have := isVal_word (t := ⟨t.toArray⟩) (by simpa [ByteArray.size] using h64)
                simpa using this
              · exact refParse_long _ t hqt h64 w (hes _)
            · exact refParse_none _ hng (fun t h => hqt ⟨t, h⟩) w (hes _)
        | none =>
          have hj : wR s (i + 1) = 0 := by unfold wR; rw [hw]
          have ht := tokL_noend hL hN hm' hw
          rw [← hd] at ht
          rw [ht]
          exact (rt_noend s i w hi hs hL hq hD hm hj).mono fun e w' ⟨he, hb⟩ => ⟨Or.inr ⟨rfl, _, _, _, _, _, he⟩, hb⟩
      | false =>
        have hm' : (s[i] == 34) = false := by rw [mark_eq]; exact hm
        cases hS : isSign s[i] with
        | true =>
          have ht := tokL_sign (r := s.data.toList.drop (i + 1)) hL hN hm' hS
          rw [← hd] at ht
          rw [ht]
          have := rt_sign s i w hi hs hL hq hD hm _ hS
          have hx := ext_take s i 1
          rw [hd] at hx
          rw [hx] at this
          exact this.mono fun e w' ⟨he, hb⟩ => ⟨Or.inl ⟨by simp, he⟩, hb⟩
        | false =>
          have ht := tokL_nosign (r := s.data.toList.drop (i + 1)) hL hN hm' hS
          rw [← hd] at ht
          rw [ht]
          exact (rt_sign s i w hi hs hL hq hD hm _ hS).mono fun e w' ⟨he, hb⟩ => ⟨Or.inr ⟨rfl, _, _, _, _, _, he⟩, hb⟩
end Go.Proofs.YtencibjmiphinaaGreatDoor.Lx
namespace Go.Proofs.YtencibjmiphinaaGreatDoor.Lx
open Go.RowKit

theorem toksL_blank {s : ByteArray} {k : Nat} (hk : k < s.size) (h : isBlank (s[k].toNat : Int) = true) : toksL (s.data.toList.drop k) k = toksL (s.data.toList.drop (k + 1)) (k + 1) := by
  rw [toksL_skip (s.data.toList.drop k) k, toksL_skip (s.data.toList.drop (k + 1)) (k + 1)]
  rw [drop_at s k hk, rl_yes h, List.drop_succ_cons]
  rw [show k + (rl isBlank (s.data.toList.drop (k + 1)) + 1) = k + 1 + rl isBlank (s.data.toList.drop (k + 1)) by omega]
/-- Up to the place k the tokens l1 have been found; blanks may follow. -/
def SeenB (s : ByteArray) (l1 : List Tok) (k : Nat) : Prop :=
  k ≤ s.size ∧ l1.length ≤ k ∧ toksL s.data.toList 0 = (l1 ++ (toksL (s.data.toList.drop k) k).1, (toksL (s.data.toList.drop k) k).2)
theorem SeenB.blank {s : ByteArray} {l1 : List Tok} {k : Nat} (h : SeenB s l1 k) (hk : k < s.size) (hb : isBlank (s[k].toNat : Int) = true) : SeenB s l1 (k + 1) := by
  refine ⟨by omega, by have := h.2.1; omega, ?_⟩
  rw [← toksL_blank hk hb]; exact h.2.2
theorem noblank {s : ByteArray} {k : Nat} (hk : k < s.size) (hb : isBlank (s[k].toNat : Int) = false) : rl isBlank (s.data.toList.drop k) = 0 := by
  rw [drop_at s k hk, rl_no hb]
theorem SeenB.next {s : ByteArray} {l1 : List Tok} {k : Nat} (h : SeenB s l1 k) (hk : k < s.size) (hb : isBlank (s[k].toNat : Int) = false) {kd : Int} {n : Nat} {v : Int} {t : ByteArray} (ht : tokL (s.data.toList.drop k) = some (kd, n, v, t)) :
    SeenB s (l1 ++ [(kd, (k : Int), ((k + n : Nat) : Int), v, t)]) (k + n) := by
  obtain ⟨h1, h2, h4⟩ := h
  have hn := tokL_len ht
  simp only [List.length_drop, Array.length_toList] at hn
  have hsz : s.data.size = s.size := rfl
  refine ⟨by omega, by simp; omega, ?_⟩
  rw [h4, toksL_next hk (noblank hk hb) ht]
  simp
theorem SeenB.bad {s : ByteArray} {l1 : List Tok} {k : Nat} (h : SeenB s l1 k) (hk : k < s.size) (hb : isBlank (s[k].toNat : Int) = false) (ht : tokL (s.data.toList.drop k) = none) : toksL s.data.toList 0 = (l1, some k) := by
  rw [h.2.2, toksL_stop hk (noblank hk hb) ht]; simp
theorem SeenB.done {s : ByteArray} {l1 : List Tok} {k : Nat} (h : SeenB s l1 k) (hk : ¬ k < s.size) : toksL s.data.toList 0 = (l1, none) := by
  rw [h.2.2, toksL_fin hk]; simp

set_option maxHeartbeats 400000 in
theorem refTokens_long (s : ByteArray) (w : World) (hs : 4096 < s.size) :
    Calls Tryz.prog 26 #[.string s] w fun e w' => e = .returned (.tuple #[.slice none 0 0, .int .i64 4096, .int .i64 10]) ∧ w' = w := by
  have a0 : (4096 : Int) < (s.size : Int) := by omega
  go_enter Tryz.func26, Tryz.ntmps26
  go_wp2
  refine bodyPost_ret (v := .tuple #[.slice none 0 0, .int .i64 4096, .int .i64 10]) (by simp [results, Tryz.results26, go_sem]) rfl ⟨rfl, rfl⟩

set_option maxHeartbeats 2000000 in
theorem refTokens_any (s : ByteArray) (w : World) (hs : s.size ≤ 4096) :
    Calls Tryz.prog 26 #[.string s] w fun e w' => ToksPost w.heap.size w' (toksL s.data.toList 0) e ∧ Below w.heap.size w w' := by
  have a0 : (s.size : Int) ≤ 4096 := by omega
  have HS := hide (show SeenB s [] 0 from ⟨by omega, by simp, by simp⟩)
  go_enter Tryz.func26, Tryz.ntmps26
  go_wp2
  go_loopw [5, 6] (fun v a wr => ∃ (l1 : List Tok) (q : Option Addr) (cap k : Nat), v = .slice q l1.length cap ∧ a = .int .i64 k ∧ SeenB s l1 k ∧ Below w.heap.size w wr ∧ OwnK encT 56 5 w.heap.size wr q cap l1) (fun _ a _ => s.size - (intOf a).toNat)
  case atStart => exact ⟨[], none, 0, 0, rfl, rfl, unhide HS, Below.refl _ _, OwnK.nil _ _⟩
  case round =>
    clear HS
    obtain ⟨l1, q, cap, k, rfl, rfl, hseen, hbel, hown⟩ := hrel
    have hks := hseen.1
    have hlk := hseen.2.1
    have HS := hide hseen
    have HB := hide hbel
    have HO := hide hown
    clear hseen hbel hown
    by_cases hlt : k < s.size
    · have b0 : (0 : Int) ≤ (k : Int) := by omega
      have b1 : (k : Int) < (s.size : Int) := by omega
      have hbl := fun w => refBlank_any (s[k].toNat : Int) w
      cases hq : isBlank (s[k].toNat : Int) with
      | true =>
        have Hy := hide ((unhide HS).blank hlt hq)
        rw [hq] at hbl
        clear hq
        go_wp2_with (go_at_call 54; refine (hbl _).mono ?_; rintro e w' ⟨rfl, rfl⟩)
        exact ⟨⟨l1, q, cap, k + 1, rfl, by go_num, unhide Hy, unhide HB, unhide HO⟩, by simp [intOf]; omega⟩
      | false =>
        have hta := refTok_any s k wr hlt (by omega)
        cases ht : tokL (s.data.toList.drop k) with
        | none =>
          have Hbad := hide ((unhide HS).bad hlt hq ht)
          rw [ht] at hta
          rw [hq] at hbl
          clear ht hq
          go_wp2_with (first
            | (go_at_call 54; refine (hbl _).mono ?_; rintro e w' ⟨rfl, rfl⟩)
            | (go_at_call 55; refine hta.mono ?_; rintro e w1 ⟨he, hb⟩; have Hb := hide hb; clear hb; rcases he with ⟨hno, _⟩ | ⟨_, x1, x2, x3, x4, x5, rfl⟩; exact absurd rfl hno))
          refine bodyPost_ret (v := .tuple #[.slice none 0 0, .int .i64 k, .int .i64 10]) (by simp [results, Tryz.results26, go_sem]) rfl ?_
          refine ⟨Or.inl ⟨k, by rw [unhide Hbad], rfl⟩, ?_⟩
          exact (below_sub (unhide HB) (unhide Hb)).alloc (below_sub (unhide HB) (unhide Hb)).size _
        | some x =>
          obtain ⟨kd, n, v, t⟩ := x
          have hn := tokL_len ht
          simp only [List.length_drop, Array.length_toList] at hn
          have hsz : s.data.size = s.size := rfl
          have Hnext := hide ((unhide HS).next hlt hq ht)
          rw [ht] at hta
          rw [hq] at hbl
          clear ht hq
          obtain ⟨m, Hm⟩ : ∃ m, k + n = m := ⟨_, rfl⟩
          have hta : Calls Tryz.prog 55 #[.string s, .int .i64 k] wr fun e w' => e = .returned (.tuple #[.agg #[.int .i64 kd, .int .i64 k, .int .i64 m, .int .i64 v, .string t], .bool true]) ∧ Below wr.heap.size wr w' := hta.mono fun e w' ⟨he, hb⟩ => ⟨by
            rcases he with ⟨_, he⟩ | ⟨h, _⟩
            · rw [he, ← Hm]; rfl
            · exact absurd h (by simp), hb⟩
          rw [Hm] at Hnext
          have HKJ := hide (show k < m by omega)
          clear Hm
          go_wp2_with (first
            | (go_at_call 54; refine (hbl _).mono ?_; rintro e w' ⟨rfl, rfl⟩)
            | (go_at_call 55; refine hta.mono ?_; rintro e w1 ⟨rfl, hb⟩; have Hb := hide hb; clear hb)
            | (at_builtin; refine wpList_app rowT rfl _ _ rfl w.heap.size q cap l1 (some ⟨w1.heap.size + 1, 0, none⟩) 1 [(kd, (k : Int), (m : Int), v, t)] l1.length 1 (l1.length + 1) rfl rfl rfl rfl rfl ((unhide HO).below (((unhide Hb).alloc (unhide Hb).size _).alloc (by have := (unhide Hb).size; simp; omega) _)) (SrcK.ofT (fun h => by cases h) (TksOf.one (by simp) (by go_simp) (by go_simp) (by go_simp) (by go_simp) (by go_simp))) (by unfold maxLen; omega) (by omega) (by have h1 := (unhide HB).size; have h2 := (unhide Hb).size; simp; omega) ?_; intro q2 cap2 w2 hown2 hb2 _ hg2; have ct : w2.cell? ⟨w1.heap.size, 2, none⟩ = some (.int .i64 m) := (hg2.cell (a := ⟨w1.heap.size, 2, none⟩) (by go_simp) (own_far (unhide HO) (unhide Hb))); have HO2 := hide hown2; have HB2 := hide ((((below_sub (unhide HB) (unhide Hb)).alloc (below_sub (unhide HB) (unhide Hb)).size _).alloc (by have := (below_sub (unhide HB) (unhide Hb)).size; simp; omega) _).trans hb2); clear hown2 hb2 hg2))
          exact ⟨⟨l1 ++ [(kd, (k : Int), (m : Int), v, t)], q2, cap2, m, by simp, rfl, unhide Hnext, unhide HB2, unhide HO2⟩, by have := unhide HKJ; simp [intOf]; omega⟩
    · have b1 : ¬ (k : Int) < (s.size : Int) := by omega
      have Hdone := hide ((unhide HS).done hlt)
      go_wp2
      refine bodyPost_ret (v := .tuple #[.slice q l1.length cap, .int .i64 0, .int .i64 0]) (by simp [results, Tryz.results26, go_sem]) rfl ?_
      refine ⟨Or.inr ⟨by rw [unhide Hdone], q, cap, by rw [unhide Hdone], by rw [unhide Hdone]; exact unhide HO⟩, unhide HB⟩
end Go.Proofs.YtencibjmiphinaaGreatDoor.Lx
namespace Go.Proofs.YtencibjmiphinaaGreatDoor
open Go.RowKit Go.Sort

theorem one_r (g : Nat) (L : List Tk) : ∀ (n : Nat), n ≤ 1000000 → ∀ (i : Nat) (w : World), (L.drop i).length < n → Rd w g L i false →
    Calls Tryz.prog 56 #[.pointer (some ⟨g, 0, none⟩)] w fun e w' => NdA g L i oneP w e w'
  | 0, _, i, w, hl, _ => by omega
  | n + 1, hn, i, w, hl, hp => by
    have ih := one_r g L n (by omega)
    have hd : ∀ s, isS s false (L.drop i) = true → (L.drop (i + 1)).length < n := fun s hs => by
      obtain ⟨_, r, hr⟩ := isS_some hs
      have := skL_len hr
      simp at this hl ⊢; omega
    cases h1 : isS ⟨#[33]⟩ false (L.drop i) with
    | true => exact one_nt g L i w hp h1 fun W hW => ih (i + 1) W (hd _ h1) hW
    | false =>
      cases h2 : isS ⟨#[40]⟩ false (L.drop i) with
      | true =>
        have h3 := hd _ h2
        exact one_pr g L i w hp h1 h2 fun W hW => chain4 g L (n - 1) (by omega) (fun j W' hj hW' => chain3 g L (n - 1) (by omega) (fun k W2 hk hW2 => ih k W2 (by omega) hW2) (fun en => oneP_dec en) j hj W' hW') (fun en => chL_dec (oneP_dec en)) (i + 1) (by omega) W hW
      | false => exact one_pd g L i w hp h1 h2
theorem or_r (g : Nat) (L : List Tk) (n : Nat) (hn : n ≤ 1000000) (i : Nat) (w : World) (hl : (L.drop i).length < n) (h : Rd w g L i false) :
    Calls Tryz.prog 27 #[.pointer (some ⟨g, 0, none⟩), .int .i64 4] w fun e w' => NdA g L i orP w e w' :=
  chain4 g L (n - 1) (by omega) (fun j W' hj hW' => chain3 g L (n - 1) (by omega) (fun k W2 hk hW2 => one_r g L n hn k W2 (by omega) hW2) (fun en => oneP_dec en) j hj W' hW') (fun en => chL_dec (oneP_dec en)) i (by omega) w h
theorem rd_new {B cap : Nat} {w : World} {q : Option Addr} {l : List Tk} (h : Lx.OwnK Lx.encT 56 5 B w q cap l) (hl : l.length ≤ 4096) : Rd (w.alloc (.cells #[.slice q l.length cap, .int .i64 0, .bool false] 70)) w.heap.size l 0 false := by
  refine ⟨q, cap, box_nw w _, Nat.zero_le _, hl, fun h0 => ?_⟩
  obtain ⟨b, off, hq, hb, ht⟩ := h.tks.1 h0
  exact ⟨b, off, hq, hb, ht.below ((RowKit.Below.refl w.heap.size w).alloc (Nat.le_refl _) _) hb⟩
set_option maxRecDepth 100000 in
set_option maxHeartbeats 8000000 in
theorem refParse_any (s : ByteArray) (w : World) :
    Calls Tryz.prog 11 #[.string s] w fun e w' => PrR w (parL s) e w' := by
  by_cases hs : 4096 < s.size
  · have hx : parL s = .bad 4096 := by unfold parL; rw [if_pos hs]
    rw [hx]
    have hc := Lx.refTokens_long s (w.alloc (.cells #[.int .i64 0, .string ⟨#[]⟩, .slice none 0 0, .slice none 0 0, .int .i64 0, .int .i64 0, .int .i64 0, .slice none 0 0] 29)) hs
    clear hx hs
    go_enter Tryz.func11, Tryz.ntmps11
    go_wp2_with (go_at_call 26; refine hc.mono ?_; rintro e w1 ⟨rfl, rfl⟩)
    refine bodyPost_ret (v := .tuple #[zVal, .int .i64 4096, .int .i64 10]) (by simp [results, Tryz.results11, go_sem, zVal]) rfl ⟨rfl, ?_⟩
    exact bel_z w
  · have hc := Lx.refTokens_any s (w.alloc (.cells #[.int .i64 0, .string ⟨#[]⟩, .slice none 0 0, .slice none 0 0, .int .i64 0, .int .i64 0, .int .i64 0, .slice none 0 0] 29)) (by omega)
    have hf := toksL_fit 4096 s.data.toList 0 (by simp; omega) (Nat.le_refl _)
    cases ht : (Lx.toksL s.data.toList 0).2 with
    | some p =>
      have hx : parL s = .bad p := by unfold parL; rw [if_neg hs, ht]
      rw [hx]
      have HT := hide ht
      clear hx hs hf ht
      go_enter Tryz.func11, Tryz.ntmps11
      go_wp2_with (go_at_call 26; refine hc.mono ?_; rintro e w1 ⟨h1, hb⟩; obtain ⟨p', h2, rfl⟩ | ⟨h2, _⟩ := h1 <;> rw [unhide HT] at h2 <;> cases h2; have HB := hide hb; clear hb; obtain ⟨z1, ⟨q0, q1, q2, q3, q4, q5, q6, q7⟩, qf⟩ := boxR (unhide HB))
      refine bodyPost_ret (v := .tuple #[zVal, .int .i64 p, .int .i64 10]) (by simp [results, Tryz.results11, go_sem, zVal, *]) rfl ⟨rfl, ?_⟩
      exact set8_below (below_sub (bel_z w) (unhide HB)) (Nat.le_refl _) _ _ _ _ _ _ _ _
    | none =>
      obtain ⟨l, hl⟩ : ∃ l, (Lx.toksL s.data.toList 0).1 = l := ⟨_, rfl⟩
      have hx : parL s = whL s.size l := by unfold parL; rw [if_neg hs, ht, hl]
      rw [hx]
      have HT := hide ht
      rw [hl] at hf
      have hll : l.length ≤ 4096 := by have := hf.1; simp at this; omega
      have HL := hide hl
      clear hx hs hf ht hl
      go_enter Tryz.func11, Tryz.ntmps11
      go_upto_region 6 with (first
          | (go_at_call 26; refine hc.mono ?_; rintro e w1 ⟨h1, hb⟩; obtain ⟨p', h2, _⟩ | ⟨_, q, cap, rfl, ho⟩ := h1; (rw [unhide HT] at h2; cases h2); rw [unhide HL] at ho; have R0 := hide (rd_new ho hll); have HO := hide ho.tks.1; have HOF := hide ho; have HB := hide hb; clear hb ho; rw [unhide HL])
          | (go_at_call 27; refine (or_r w1.heap.size l 5000 (by omega) 0 _ (by simp; omega) (unhide R0)).mono ?_; rintro e w3 ⟨x, i, b, ⟨v, rfl, hv, hr⟩, hm⟩; have HV := hide hv; have HR := hide hr; have HM := hide hm; clear hv hr hm; unfold Nv.val))
      obtain ⟨u1, u2, u3⟩ := res_far (unhide HB) (unhide HR).2
      have u7 : w1.heap.size < w3.heap.size := by have := (unhide HR).2.size; simp at this; omega
      have u8 : w.heap.size < w1.heap.size := by have := (unhide HB).size; simp at this; omega
      have u9 : RowKit.Below w1.heap.size w1 (w3.alloc (.cells #[.int .i64 v.kind, .string v.attr, .slice v.qi v.ni v.ci, .slice v.qw v.nw v.cw, .int .i64 v.lo, .int .i64 v.hi, .int .i64 v.op, .slice v.qk v.nk v.ck] 29)) := (((RowKit.Below.refl w1.heap.size w1).alloc (Nat.le_refl _) (.cells #[.slice q l.length cap, .int .i64 0, .bool false] 70)).grown (unhide HR).2 (by simp) (fun k e => by cases e; exact Nat.le_refl _)).alloc (by omega) _
      have rb := (unhide HR).1.below ((RowKit.Below.refl w3.heap.size w3).alloc (Nat.le_refl _) (.cells #[.int .i64 v.kind, .string v.attr, .slice v.qi v.ni v.ci, .slice v.qw v.nw v.cw, .int .i64 v.lo, .int .i64 v.hi, .int .i64 v.op, .slice v.qk v.nk v.ck] 29))
      have u4 := (u3.alloc (by omega) (.cells #[.int .i64 v.kind, .string v.attr, .slice v.qi v.ni v.ci, .slice v.qw v.nw v.cw, .int .i64 v.lo, .int .i64 v.hi, .int .i64 v.op, .slice v.qk v.nk v.ck] 29))
      have u5 := ((RowKit.Below.refl w3.heap.size w3).alloc (Nat.le_refl _) (.cells #[.int .i64 v.kind, .string v.attr, .slice v.qi v.ni v.ci, .slice v.qw v.nw v.cw, .int .i64 v.lo, .int .i64 v.hi, .int .i64 v.op, .slice v.qk v.nk v.ck] 29)).block w.heap.size (by omega)
      rw [u1] at u5
      have u6 := box_nw w3 (.cells #[.int .i64 v.kind, .string v.attr, .slice v.qi v.ni v.ci, .slice v.qw v.nw v.cw, .int .i64 v.lo, .int .i64 v.hi, .int .i64 v.op, .slice v.qk v.nk v.ck] 29)
      have hm0 := unhide HM s.size
      have HVW := hide ((unhide HV).up (SameUp.of ((RowKit.Below.refl w3.heap.size w3).alloc (Nat.le_refl _) (.cells #[.int .i64 v.kind, .string v.attr, .slice v.qi v.ni v.ci, .slice v.qw v.nw v.cw, .int .i64 v.lo, .int .i64 v.hi, .int .i64 v.op, .slice v.qk v.nk v.ck] 29))))
      obtain ⟨W, EW⟩ : ∃ W, w3.alloc (.cells #[.int .i64 v.kind, .string v.attr, .slice v.qi v.ni v.ci, .slice v.qw v.nw v.cw, .int .i64 v.lo, .int .i64 v.hi, .int .i64 v.op, .slice v.qk v.nk v.ck] 29) = W := ⟨_, rfl⟩
      obtain ⟨M, EM⟩ : ∃ M, w3.heap.size = M := ⟨_, rfl⟩
      have mw : w.heap.size < M := by omega
      rw [EM] at u6 ⊢
      rw [EW] at rb u4 u5 u6 u9 HVW ⊢
      obtain ⟨k0, k1, k2, k3, k4, k5, k6, k7⟩ := of8' u5
      have kf : ∀ o, W.frozen? ⟨w.heap.size, o, none⟩ = false := fun o => frozen_free u5
      obtain ⟨q', c', _, _, _, _, d1, d2, df, _, _⟩ := rb.cells
      have U9 := hide u9
      have U8 := hide u8
      have HRL := hide rb.le
      have U4 := hide u4
      have WL := hide (show (w1.alloc (.cells #[.slice q l.length cap, .int .i64 0, .bool false] 70)).heap.size ≤ W.heap.size by rw [← EW]; have := (unhide HR).2.size; simp at this ⊢; omega)
      have W1 := hide (show w.heap.size < (w1.alloc (.cells #[.slice q l.length cap, .int .i64 0, .bool false] 70)).heap.size by have := (unhide HB).size; simp at this ⊢; omega)
      clear u1 u2 u3 u4 u5 u7 u8 u9 rb HM HR R0 HB hc HV
      have hpl : ∀ p, whL s.size l = .bad p → True := fun _ _ => trivial
      cases hd : l.drop i with
      | nil =>
        have h1 := drop_nil hd
        have b1 : ((i : Int) < (l.length : Int)) = False := by simp; omega
        have b2 : ¬ (i : Int) < (l.length : Int) := by omega
        cases b with
        | true =>
          have HE := hide (show whL s.size l = .bad s.size by
            rw [whL_P]
            simp only [List.drop_zero] at hm0
            cases e : orP (s.size : Int) l with
            | bad p => rw [e] at hm0; have h9 := hm0.2; rw [hd] at h9; exact congrArg _ h9.symm
            | ok x r => rw [e] at hm0; exact absurd hm0.1 (by decide))
          clear hd h1 hm0 hpl b1
          go_wp2
          refine bodyPost_ret (v := .tuple #[zVal, .int .i64 s.size, .int .i64 10]) (by simp [results, Tryz.results11, go_sem, zVal, *]) rfl ?_
          rw [unhide HE]
          exact ⟨rfl, set8_below (unhide U4) (Nat.le_refl _) _ _ _ _ _ _ _ _⟩
        | false =>
          have HE := hide (show whL s.size l = .ok x [] by
            rw [whL_P]
            simp only [List.drop_zero] at hm0
            cases e : orP (s.size : Int) l with
            | bad p => rw [e] at hm0; exact absurd hm0.1 (by decide)
            | ok x r => rw [e] at hm0; obtain ⟨_, rfl, h3⟩ := hm0; rw [hd] at h3; subst h3; rfl)
          clear hd h1 hm0 hpl b1
          obtain ⟨m0, m1, m2, m3, m4, m5, m6, m7⟩ := of8' u6
          go_wp2
          refine bodyPost_ret (v := .tuple #[v.val, .int .i64 0, .int .i64 0]) (by simp [results, Tryz.results11, go_sem, Nv.val, *]) rfl ?_
          rw [unhide HE]
          exact ⟨⟨v, rfl, ((unhide HVW).up (set8_up _ (unhide W1) _ _ _ _ _ _ _ _)).mono (Nat.le_of_lt (unhide W1))⟩, set8_below (unhide U4) (Nat.le_refl _) _ _ _ _ _ _ _ _⟩
      | cons t r =>
        have hi : i < l.length := by
          have := congrArg List.length hd
          simp at this; omega
        obtain ⟨b0, off, rfl, hb0, ht0⟩ := (unhide HO) (by omega)
        have n5 : w.heap.size + 1 ≤ b0 := by have := (World.ownsRow.lt (unhide HOF) b0 rfl).1; simpa using this
        have n1 : ¬ b0 = w.heap.size := by omega
        have n2 : ¬ w.heap.size = b0 := by omega
        have n3 : ¬ w1.heap.size = w.heap.size := by have := unhide U8; omega
        have n4 : ¬ w.heap.size = w1.heap.size := by have := unhide U8; omega
        obtain ⟨s0, s1, _, _, _⟩ := (ht0.below (unhide U9) hb0) i t (by have := congrArg (fun l => l[0]?) hd; simpa using this)
        have b2 : (i : Int) < (l.length : Int) := by omega
        have b3 : (0 : Int) ≤ (i : Int) := by omega
        have HE := hide (show whL s.size l = .bad t.2.1 by
          rw [whL_P]
          simp only [List.drop_zero] at hm0
          cases e : orP (s.size : Int) l with
          | bad p => rw [e] at hm0; have h9 := hm0.2; rw [hd] at h9; exact congrArg _ h9.symm
          | ok x r => rw [e] at hm0; obtain ⟨_, rfl, h3⟩ := hm0; rw [hd] at h3; subst h3; rfl)
        have mixed : Tryz.prog.follows .mixedOrders = true := by kernel_rfl
        clear hd hm0 hpl
        cases b with
        | true =>
          go_wp2
          go_region_held3 (fun X => X.cell? ⟨w1.heap.size, 1, none⟩ = some (.int .i64 (i : Int)) ∧ X.cell? ⟨b0, off + i * 5 + 1, none⟩ = some (.int .i64 t.2.1)) (go_keep) (fail)
          all_goals
            go_wp2
            refine bodyPost_ret (v := .tuple #[zVal, .int .i64 t.2.1, .int .i64 10]) (by simp [results, Tryz.results11, go_sem, zVal, *]) rfl ?_
            rw [unhide HE]
            exact ⟨rfl, (set8_below (unhide U4) (Nat.le_refl _) _ _ _ _ _ _ _ _).drew⟩
        | false =>
          go_wp2
          go_region_held3 (fun X => X.cell? ⟨w1.heap.size, 1, none⟩ = some (.int .i64 (i : Int)) ∧ X.cell? ⟨b0, off + i * 5 + 1, none⟩ = some (.int .i64 t.2.1)) (go_keep) (fail)
          all_goals
            go_wp2
            refine bodyPost_ret (v := .tuple #[zVal, .int .i64 t.2.1, .int .i64 10]) (by simp [results, Tryz.results11, go_sem, zVal, *]) rfl ?_
            rw [unhide HE]
            exact ⟨rfl, (set8_below (unhide U4) (Nat.le_refl _) _ _ _ _ _ _ _ _).drew⟩
end Go.Proofs.YtencibjmiphinaaGreatDoor
