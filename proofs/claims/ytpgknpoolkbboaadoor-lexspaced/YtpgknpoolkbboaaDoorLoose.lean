/- What the reference's Unquote returns: what the program's does. -/
import Derived.Test.YtpgknpoolkbboaaDoorLoosePlain
import Derived.Test.YtpgknpoolkbboaaDoorRefQuote
namespace Go.Proofs.YtpgknpoolkbboaaDoor
open Go.RowKit
theorem drop_at (s : ByteArray) (k : Nat) (h : k < s.size) : s.data.toList.drop k = s[k] :: s.data.toList.drop (k + 1) := by
  rw [List.drop_eq_getElem_cons (by simpa using h)]; rfl

theorem idx_at (k : Nat) (hk : k < 16) (c : UInt8) (h : hexd k = c) : dig c = UInt8.ofNat k := by
  subst h; unfold dig; rw [hexd_idx k hk, if_pos (by omega)]; simp
theorem dig_none (c : UInt8) (h : ∀ k, k < 16 → hexd k ≠ c) : dig c = 0 := by
  unfold dig
  by_cases h0 : 0 ≤ idx c
  · exfalso
    have := idx_rng c
    exact h (idx c).toNat (by omega) (idx_hexd c h0).symm
  · rw [if_neg h0]

set_option maxHeartbeats 400000 in
theorem digit_any (c : UInt8) (w : World) :
    Calls Tryd.prog 122 #[.int .u8 (c.toNat : Int)] w fun e w' => e = .returned (.int .u8 ((dig c).toNat : Int)) ∧ w' = w := by
  go_enter Tryd.func122, Tryd.ntmps122
  go_wp2
  go_loop [3] (fun i => ∃ k : Nat, k ≤ 16 ∧ i = .int .i64 k ∧ ∀ j, j < k → hexd j ≠ c) (fun i => 16 - (intOf i).toNat)
  case atStart => exact ⟨0, by omega, rfl, fun j h => by omega⟩
  case round =>
    obtain ⟨k, hk, rfl, hz⟩ := hrel
    have Hz := hide hz
    clear hz
    by_cases hlt : k < 16
    · have k0 : (0 : Int) ≤ (k : Int) := by omega
      have k1 : (k : Int) < 16 := by omega
      have hx : ∀ h, (ByteArray.mk #[48, 49, 50, 51, 52, 53, 54, 55, 56, 57, 97, 98, 99, 100, 101, 102])[k]'h = hexd k := fun h => hexAt k h
      by_cases hc : hexd k = c
      · have hd : (((hexd k).toNat : Int) == (c.toNat : Int)) = true := by simp [hc]
        have Hf := hide (idx_at k hlt c hc)
        clear hc
        go_wp2
        go_ret
        exact ⟨ret_int (by rw [unhide Hf, UInt8.toNat_ofNat', Nat.mod_eq_of_lt (by omega)]), rfl⟩
      · have hd : (((hexd k).toNat : Int) == (c.toNat : Int)) = false := by
          rw [beq_eq_false_iff_ne]; intro e; exact hc (UInt8.toNat_inj.1 (by omega))
        have Hc := hide hc
        clear hc
        go_wp2
        go_round
        case rel => exact ⟨k + 1, by omega, by go_num, fun j hj => by
          by_cases e : j = k
          · rw [e]; exact unhide Hc
          · exact unhide Hz j (by omega)⟩
        case measure => simp [intOf]; omega
    · have Hf := hide (dig_none c (fun j hj => unhide Hz j (by omega)))
      go_wp2
      go_ret
      exact ⟨ret_int (by rw [unhide Hf]; rfl), rfl⟩

theorem wrap_in {n : Int} (h0 : -9223372036854775808 ≤ n) (h1 : n ≤ 9223372036854775807) : IntKind.i64.wrap n = n := by
  have e : (2 : Int) ^ IntKind.i64.bits = 18446744073709551616 := by decide
  have e2 : (2 : Int) ^ (IntKind.i64.bits - 1) = 9223372036854775808 := by decide
  simp only [IntKind.wrap, e, e2, show IntKind.i64.signed = true from rfl, Bool.true_and, decide_eq_true_eq]
  split <;> omega
theorem u8_sum (a b : UInt8) : IntKind.u8.wrap (IntKind.u8.wrap ((a.toNat : Int) * 16) + (b.toNat : Int)) = ((a * 16 + b).toNat : Int) := by
  have e : (2 : Int) ^ IntKind.u8.bits = 256 := by decide
  simp only [IntKind.wrap, e, show IntKind.u8.signed = false from rfl, Bool.false_and, Bool.false_eq_true, if_false]
  have h16 : (16 : UInt8).toNat = 16 := rfl
  rw [UInt8.toNat_add, UInt8.toNat_mul, h16]
  omega
theorem hex_cell (s : ByteArray) (i j : Int) (a b : Nat) (hi : i = (a : Int)) (hj : j = (b : Int)) (ha : a < s.size) (hb : b < s.size) {h1 : i.toNat < s.size} {h2 : j.toNat < s.size} :
    Value.int .u8 (IntKind.u8.wrap (IntKind.u8.wrap (((dig (s[i.toNat]'h1)).toNat : Int) * 16) + ((dig (s[j.toNat]'h2)).toNat : Int))) = bv (dig s[a] * 16 + dig s[b]) := by
  subst hi; subst hj
  rw [u8_sum]
  rfl
theorem drop_two (s : ByteArray) (k : Nat) (h : k + 1 < s.size) : s.data.toList.drop k = s[k] :: s[k + 1] :: s.data.toList.drop (k + 2) := by
  rw [List.drop_eq_getElem_cons (i := k) (by simpa using (show k < s.size by omega)), List.drop_eq_getElem_cons (i := k + 1) (by simpa using h)]; rfl

set_option maxRecDepth 100000 in
set_option maxHeartbeats 1000000 in
theorem loose_any (s : ByteArray) (w : World) (hmax : s.size ≤ 100000000000) :
    Calls Tryd.prog 114 #[.string s] w fun e w' => e = .returned (.string ⟨(loL s.data.toList.tail).toArray⟩) ∧ Below w.heap.size w w' := by
  obtain ⟨i0, hi, hz0, hz1, hz2⟩ := info_parts Tryd.info5
  go_enter Tryd.func114, Tryd.ntmps114
  go_wp2
  go_loopw [3, 4] (fun v i wr => ∃ (k : Nat) (l : List UInt8), 1 ≤ k ∧ k ≤ s.size + 1 ∧ l.length ≤ k ∧ i = .int .i64 k ∧ Row w.heap.size wr v l ∧ Below w.heap.size w wr ∧ loL s.data.toList.tail = l ++ loL (s.data.toList.drop k) ∧ (l = [] → v = .slice none 0 0)) (fun _ i _ => s.size + 1 - (intOf i).toNat)
  case atStart => exact ⟨1, [], by omega, by omega, by simp, rfl, World.ownsRow_nil _ _ _ _, Below.refl _ _, by rw [List.drop_one]; rfl, fun _ => rfl⟩
  case round =>
    obtain ⟨k, l, hk1, hk2, hlk, rfl, hrow, hb, heq, hnil⟩ := hrel
    have Heq := hide heq
    clear heq
    have hBs := hb.size
    by_cases hlt : k + 1 < s.size
    · have b0 : (0 : Int) ≤ (k : Int) := by omega
      have b1 : (k : Int) < (s.size : Int) := by omega
      have b2 : (k : Int) < (s.size : Int) - 1 := by omega
      have b3 : (k : Int) + 1 < (s.size : Int) := by omega
      have hdt := hide (drop_two s k hlt)
      unfold Row at hrow
      clear hnil
      by_cases h92 : (s[k].toNat : Int) = 92
      · have d1 : (((s[k].toNat : Int)) != 92) = false := by simp [h92]
        have e92 := hide (show s[k] = 92 from (toNat_is s[k] 92 (by omega)).1 h92)
        clear h92
        by_cases hx : (s[k + 1].toNat : Int) = 120 ∧ k + 3 < s.size
        · obtain ⟨hx1, hx2⟩ := hx
          have d2 : (((s[k + 1].toNat : Int)) == 120) = true := by simp [hx1]
          have b4 : (k : Int) + 3 < (s.size : Int) := by omega
          have b5 : (k : Int) + 2 < (s.size : Int) := by omega
          have hlo := hide (show loL (s.data.toList.drop k) = (dig s[k + 2] * 16 + dig s[k + 3]) :: loL (s.data.toList.drop (k + 4)) by
            have e120 : s[k + 1] = 120 := (toNat_is s[k + 1] 120 (by omega)).1 hx1
            rw [unhide hdt, unhide e92, e120, drop_two s (k + 2) (by omega), loL_hex])
          have bk : (k : Int) ≤ 100000000000 := by omega
          have b6 : (0 : Int) ≤ (k : Int) + 2 := by omega
          have b7 : (0 : Int) ≤ (k : Int) + 3 := by omega
          have b8 : k + 2 < s.size := by omega
          clear hx1
          go_wp2
          have w2 : IntKind.i64.wrap ((k : Int) + 2) = (k : Int) + 2 := wrap_in (by omega) (by omega)
          have w3 : IntKind.i64.wrap ((k : Int) + 3) = (k : Int) + 3 := wrap_in (by omega) (by omega)
          go_region_held3 (fun _ => True) (go_keep)
            ((first
              | (go_at_call 122; refine (digit_any _ _).mono ?_; rintro e w' ⟨rfl, rfl⟩)
              | (refine step_append_lies _ (by rfl) _ _ _ (by rfl) w.heap.size 5 i0 (.int .u8 0) 1 1 Tryd.underlying32 hi hz0 hz1 hz2 (by rfl) (by decide) u3 l.length (l.map bv) (by rfl) (by exact (hrow.alloc _)) _ 1 1 _ (by rfl) (by rfl) (World.news_of_block (heap_alloc_new _ _)) (by simp [Value.oneCell']) (by decide) (by unfold maxLen; omega) (by omega) (by simp; omega) _ rfl ?_; intro g cap w1 hown1 hgrow hat hlt2)))
          all_goals
            rw [hex_cell s _ _ (k + 2) (k + 3) (by omega) (by omega) (by omega) (by omega)] at hown1
            have R2 := hide (And.intro (row_of (m := [dig s[k + 2] * 16 + dig s[k + 3]]) rfl hown1) (grown_row hrow hBs (((Below.refl _ _).alloc hBs _).drew) (by simp) hgrow))
            clear hown1 hgrow hat hlt2
            go_wp2
            go_roundw
            case rel => exact ⟨k + 4, l ++ [dig s[k + 2] * 16 + dig s[k + 3]], by omega, by omega, by simp; omega, by go_num, (unhide R2).1, hb.trans (unhide R2).2, by rw [unhide Heq, unhide hlo]; simp, fun h => by simp at h⟩
            case measure => simp [intOf]; omega
        · have hlo := hide (show loL (s.data.toList.drop k) = s[k + 1] :: loL (s.data.toList.drop (k + 2)) by
            rw [unhide hdt, unhide e92, loL_pair]
            rintro ⟨h1, h2⟩
            refine hx ⟨(toNat_is s[k + 1] 120 (by omega)).2 h1, ?_⟩
            simp only [List.length_drop, Array.length_toList] at h2
            have h4 : s.data.size = s.size := rfl
            omega)
          by_cases hx1 : (s[k + 1].toNat : Int) = 120
          · have d2 : (((s[k + 1].toNat : Int)) == 120) = true := by simp [hx1]
            have b4 : ¬ (k : Int) + 3 < (s.size : Int) := fun h => hx ⟨hx1, by omega⟩
            clear hx hx1
            go_wp2_with (at_builtin; refine wpList_append_own _ rfl (.tmp 51) (.tmp 56) 32 rfl w.heap.size 5 i0 (.int .u8 0) 1 1 Tryd.underlying32 hi hz0 hz1 hz2 rfl (by decide) _ _ _ rfl (hrow.alloc _) ⟨_, 0, none⟩ 1 1 [bv s[k + 1]] rfl rfl news1 (bv_one [s[k + 1]]) (by unfold maxLen; omega) (by omega) (by simp; omega) ?_; intro v2 w2 hown2 hgrow2 hn2; have R2 := hide (And.intro (row_of (m := [s[k + 1]]) rfl hown2) (grown_row hrow hBs ((Below.refl _ _).alloc hBs _) (by simp) hgrow2)); clear hown2 hgrow2 hn2)
            go_roundw
            case rel => exact ⟨k + 2, l ++ [s[k + 1]], by omega, by omega, by simp; omega, by go_num, (unhide R2).1, hb.trans (unhide R2).2, by rw [unhide Heq, unhide hlo]; simp, fun h => by simp at h⟩
            case measure => simp [intOf]; omega
          · have d2 : (((s[k + 1].toNat : Int)) == 120) = false := by simpa using hx1
            clear hx hx1
            go_wp2_with (at_builtin; refine wpList_append_own _ rfl (.tmp 51) (.tmp 56) 32 rfl w.heap.size 5 i0 (.int .u8 0) 1 1 Tryd.underlying32 hi hz0 hz1 hz2 rfl (by decide) _ _ _ rfl (hrow.alloc _) ⟨_, 0, none⟩ 1 1 [bv s[k + 1]] rfl rfl news1 (bv_one [s[k + 1]]) (by unfold maxLen; omega) (by omega) (by simp; omega) ?_; intro v2 w2 hown2 hgrow2 hn2; have R2 := hide (And.intro (row_of (m := [s[k + 1]]) rfl hown2) (grown_row hrow hBs ((Below.refl _ _).alloc hBs _) (by simp) hgrow2)); clear hown2 hgrow2 hn2)
            go_roundw
            case rel => exact ⟨k + 2, l ++ [s[k + 1]], by omega, by omega, by simp; omega, by go_num, (unhide R2).1, hb.trans (unhide R2).2, by rw [unhide Heq, unhide hlo]; simp, fun h => by simp at h⟩
            case measure => simp [intOf]; omega
      · have d1 : (((s[k].toNat : Int)) != 92) = true := by simpa using h92
        have hlo := hide (show loL (s.data.toList.drop k) = s[k] :: loL (s.data.toList.drop (k + 1)) by
          rw [unhide hdt, loL_plain (fun e => h92 ((toNat_is s[k] 92 (by omega)).2 e)), ← drop_at s (k + 1) hlt])
        clear h92
        go_wp2_with (at_builtin; refine wpList_append_own _ rfl (.tmp 16) (.tmp 20) 32 rfl w.heap.size 5 i0 (.int .u8 0) 1 1 Tryd.underlying32 hi hz0 hz1 hz2 rfl (by decide) _ _ _ rfl (hrow.alloc _) ⟨_, 0, none⟩ 1 1 [bv s[k]] rfl rfl news1 (bv_one [s[k]]) (by unfold maxLen; omega) (by omega) (by simp; omega) ?_; intro v2 w2 hown2 hgrow2 hn2; have R2 := hide (And.intro (row_of (m := [s[k]]) rfl hown2) (grown_row hrow hBs ((Below.refl _ _).alloc hBs _) (by simp) hgrow2)); clear hown2 hgrow2 hn2)
        go_roundw
        case rel => exact ⟨k + 1, l ++ [s[k]], by omega, by omega, by simp; omega, by go_num, (unhide R2).1, hb.trans (unhide R2).2, by rw [unhide Heq, unhide hlo]; simp, fun h => by simp at h⟩
        case measure => simp [intOf]; omega
    · have b2 : ¬ (k : Int) < (s.size : Int) - 1 := by omega
      have hfin := hide (show loL s.data.toList.tail = l by
        rw [unhide Heq, loL_short (by simp; omega)]; simp)
      cases l with
      | nil =>
        obtain rfl := hnil rfl
        have hcv := conv_nil wr
        clear hnil hrow
        go_wp2
        go_ret
        exact ⟨ret_str (a := []) (unhide hfin).symm, hb⟩
      | cons c l =>
        have hcv := conv_row hrow (by simp)
        clear hnil hrow
        go_wp2
        go_ret
        exact ⟨ret_str (unhide hfin).symm, hb⟩
end Go.Proofs.YtpgknpoolkbboaaDoor
