/- The reference's comparison of texts, and its names. -/
import Derived.Test.YtonhagoeajhacaaName
import Derived.Test.YtonhagoeajhacaaR0
namespace Go.Proofs.Ytonhagoeajhacaa
open Go.RowKit Go.Sort

def cmpI (a b : Int) : Int := if a < b then -1 else if b < a then 1 else 0
theorem cmpI_lt {a b : Int} (h : a < b) : cmpI a b = -1 := if_pos h
theorem cmpI_gt {a b : Int} (h : b < a) : cmpI a b = 1 := by unfold cmpI; rw [if_neg (by omega), if_pos h]
theorem cmpI_eq {a b : Int} (h : ¬ a < b) (h2 : ¬ b < a) : cmpI a b = 0 := by unfold cmpI; rw [if_neg h, if_neg h2]
def cmpS (a b : List UInt8) : Int := if a < b then -1 else if a = b then 0 else 1
theorem below_drewN {B : Nat} {w w1 : World} (h : Below B w w1) (n : Nat) : Below B w (w1.drewN n) := ⟨h.os, h.tape, h.output, h.size, h.block⟩
set_option maxHeartbeats 400000 in
theorem ints_any (a b : Int) (w : World) :
    Calls Try.prog 63 #[.int .i64 a, .int .i64 b] w fun e w' => e = .returned (.int .i64 (cmpI a b)) ∧ w' = w := by
  by_cases h1 : a < b
  · go_enter Try.func63, Try.ntmps63
    go_wp2
    go_ret
    exact ⟨ret_int (cmpI_lt h1).symm, rfl⟩
  · by_cases h2 : b < a
    · go_enter Try.func63, Try.ntmps63
      go_wp2
      go_ret
      exact ⟨ret_int (cmpI_gt h2).symm, rfl⟩
    · go_enter Try.func63, Try.ntmps63
      go_wp2
      go_ret
      exact ⟨ret_int (cmpI_eq (by omega) (by omega)).symm, rfl⟩

theorem cmpS_cons (a b : UInt8) (x y : List UInt8) : cmpS (a :: x) (b :: y) = if a = b then cmpS x y else cmpI (a.toNat : Int) (b.toNat : Int) := by
  unfold cmpS
  by_cases h : a = b
  · subst h
    rw [if_pos rfl]
    have h1 : (a :: x < a :: y) ↔ x < y := by rw [List.cons_lt_cons_iff]; simp
    simp only [h1, List.cons.injEq, true_and]
  · rw [if_neg h]
    have hn : a.toNat ≠ b.toNat := fun e => h (UInt8.toNat_inj.1 e)
    have h1 : (a :: x < b :: y) ↔ a < b := by rw [List.cons_lt_cons_iff]; simp [h]
    have h2 : ¬ (a :: x = b :: y) := fun e => h (by injection e)
    rw [if_neg h2]
    by_cases hl : a < b
    · rw [if_pos (h1.2 hl)]
      rw [UInt8.lt_iff_toNat_lt] at hl
      rw [cmpI_lt (by omega)]
    · rw [if_neg (fun e => hl (h1.1 e))]
      rw [UInt8.lt_iff_toNat_lt] at hl
      rw [cmpI_gt (by omega)]
theorem cmpS_nil_l (m : List UInt8) : cmpS [] m = cmpI 0 m.length := by
  cases m with
  | nil => unfold cmpS; rw [if_neg (List.lt_irrefl _), if_pos rfl]; rfl
  | cons b y => unfold cmpS; rw [if_pos (List.nil_lt_cons _ _), cmpI_lt (by simp)]
theorem cmpS_nil_r (m : List UInt8) : cmpS m [] = cmpI m.length 0 := by
  cases m with
  | nil => unfold cmpS; rw [if_neg (List.lt_irrefl _), if_pos rfl]; rfl
  | cons b y => unfold cmpS; rw [if_neg (List.not_lt_nil _), if_neg (by simp), cmpI_gt (by simp)]
theorem drop_at (s : ByteArray) (k : Nat) (h : k < s.size) : s.data.toList.drop k = s[k] :: s.data.toList.drop (k + 1) := by
  rw [List.drop_eq_getElem_cons (by simpa using h)]; rfl
theorem cmpI_shift (a b k : Int) : cmpI (a - k) (b - k) = cmpI a b := by
  unfold cmpI
  by_cases h1 : a < b
  · rw [if_pos h1, if_pos (by omega)]
  · rw [if_neg h1, if_neg (by omega)]
    by_cases h2 : b < a
    · rw [if_pos h2, if_pos (by omega)]
    · rw [if_neg h2, if_neg (by omega)]
theorem texts_end (a b : ByteArray) (k : Nat) (h1 : k ≤ a.size) (h2 : k ≤ b.size) (h : ¬ (k < a.size ∧ k < b.size)) : cmpS (a.data.toList.drop k) (b.data.toList.drop k) = cmpI a.size b.size := by
  by_cases h3 : k < a.size
  · have h4 : k = b.size := by omega
    rw [List.drop_of_length_le (l := b.data.toList) (by simp; omega), cmpS_nil_r]
    rw [← cmpI_shift a.size b.size k]
    simp only [List.length_drop, Array.length_toList]
    congr 1
    · show ((a.size - k : Nat) : Int) = _; omega
    · omega
  · have h4 : k = a.size := by omega
    rw [List.drop_of_length_le (l := a.data.toList) (by simp; omega), cmpS_nil_l]
    rw [← cmpI_shift a.size b.size k]
    simp only [List.length_drop, Array.length_toList]
    congr 1
    · omega
    · show ((b.size - k : Nat) : Int) = _; omega
theorem texts_ne (a b : ByteArray) (k : Nat) (h1 : k < a.size) (h2 : k < b.size) (h : (a[k].toNat : Int) ≠ b[k].toNat) : cmpS (a.data.toList.drop k) (b.data.toList.drop k) = cmpI a[k].toNat b[k].toNat := by
  rw [drop_at a k h1, drop_at b k h2, cmpS_cons, if_neg]
  intro e; rw [e] at h; exact h rfl
theorem texts_eq (a b : ByteArray) (k : Nat) (h1 : k < a.size) (h2 : k < b.size) (h : (a[k].toNat : Int) = b[k].toNat) : cmpS (a.data.toList.drop k) (b.data.toList.drop k) = cmpS (a.data.toList.drop (k + 1)) (b.data.toList.drop (k + 1)) := by
  rw [drop_at a k h1, drop_at b k h2, cmpS_cons, if_pos]
  exact UInt8.toNat_inj.1 (by omega)

theorem wrap_byte (c : UInt8) : IntKind.i64.wrap (c.toNat : Int) = (c.toNat : Int) := by
  have := c.toNat_lt
  have e : (2 : Int) ^ IntKind.i64.bits = 18446744073709551616 := by decide
  have e2 : (2 : Int) ^ (IntKind.i64.bits - 1) = 9223372036854775808 := by decide
  simp [IntKind.wrap, e, e2]
  omega

set_option maxHeartbeats 1000000 in
theorem texts_any (a b : ByteArray) (w : World) (ha : a.size ≤ maxLen) :
    Calls Try.prog 56 #[.string a, .string b] w fun e w' => e = .returned (.int .i64 (cmpS a.data.toList b.data.toList)) ∧ Below w.heap.size w w' := by
  unfold maxLen at ha
  go_enter Try.func56, Try.ntmps56
  go_wp2
  go_loopw [5] (fun i wr => ∃ k : Nat, k ≤ a.size ∧ k ≤ b.size ∧ i = .int .i64 k ∧ Below w.heap.size w wr ∧ cmpS a.data.toList b.data.toList = cmpS (a.data.toList.drop k) (b.data.toList.drop k)) (fun i _ => a.size - (intOf i).toNat)
  case atStart => exact ⟨0, Nat.zero_le _, Nat.zero_le _, rfl, Below.refl _ _, by simp⟩
  case round =>
    obtain ⟨k, hka, hkb, rfl, hbel, heq⟩ := hrel
    have Heq := hide heq
    clear heq
    by_cases hlt : k < a.size ∧ k < b.size
    · obtain ⟨h1, h2⟩ := hlt
      have i0 : (0 : Int) ≤ (k : Int) := by omega
      have i1 : (k : Int) < (a.size : Int) := by omega
      have i2 : (k : Int) < (b.size : Int) := by omega
      by_cases hc : (a[k].toNat : Int) = b[k].toNat
      · have Hc := hide (texts_eq a b k h1 h2 hc)
        have hd : (((a[k].toNat : Int)) != (b[k].toNat : Int)) = false := by simp [hc]
        clear hc
        go_wp2
        go_quiet (fail)
        go_wp2
        go_roundw
        case rel => exact ⟨k + 1, by omega, by omega, by go_num, below_drewN hbel _, by rw [unhide Heq, unhide Hc]⟩
        case measure => simp [intOf]; omega
      · have Hc := hide (texts_ne a b k h1 h2 hc)
        have hd : (((a[k].toNat : Int)) != (b[k].toNat : Int)) = true := by simp [hc]
        clear hc
        go_wp2
        go_quiet (fail)
        go_wp2
        go_region_held3 (fun _ => True) (go_keep) ((go_at_call 63; refine (ints_any _ _ _).mono ?_; rintro e w' ⟨rfl, rfl⟩))
        all_goals
          go_wp2
          go_ret
          refine ⟨ret_int ?_, (below_drewN hbel _).drew⟩
          rw [unhide Heq, unhide Hc, wrap_byte, wrap_byte]

    · have Hend := hide (texts_end a b k hka hkb hlt)
      by_cases h1 : k < a.size
      · have h2 : ¬ k < b.size := fun h => hlt ⟨h1, h⟩
        clear hlt
        go_wp2_with (go_at_call 63; refine (ints_any _ _ _).mono ?_; rintro e w' ⟨rfl, rfl⟩)
        go_ret
        exact ⟨ret_int (by rw [unhide Heq, unhide Hend]), hbel⟩
      · clear hlt
        go_wp2_with (go_at_call 63; refine (ints_any _ _ _).mono ?_; rintro e w' ⟨rfl, rfl⟩)
        go_ret
        exact ⟨ret_int (by rw [unhide Heq, unhide Hend]), hbel⟩


theorem cmpS_lt {a b : ByteArray} (h : ltN a b) : cmpS a.data.toList b.data.toList = -1 := if_pos h
theorem cmpS_eq {a b : ByteArray} (h : a = b) : cmpS a.data.toList b.data.toList = 0 := by subst h; unfold cmpS; rw [if_neg (List.lt_irrefl _), if_pos rfl]
theorem cmpS_gt {a b : ByteArray} (h : ¬ ltN a b) (h2 : a ≠ b) : cmpS a.data.toList b.data.toList = 1 := by
  unfold cmpS; rw [if_neg (show ¬ a.data.toList < b.data.toList from h), if_neg]; intro e; apply h2; cases a; cases b; simp only at e; rw [Array.toList_inj.1 e]
set_option maxHeartbeats 1000000 in
theorem refName_any (s : ByteArray) (w : World) :
    Calls Try.prog 55 #[.string s] w fun e w' => e = .returned (.bool (nameOk s)) ∧ w' = w := by
  by_cases h1 : s.size < 1
  · have hn := hide (name_no0 h1)
    have he : s.toList.isEmpty = true := (empty_iff s).2 (by omega)
    go_enter Try.func55, Try.ntmps55
    go_wp2
    go_ret
    exact ⟨ret_bool (unhide hn).symm, rfl⟩
  · have he : s.toList.isEmpty = false := by
      cases h : s.toList.isEmpty with
      | false => rfl
      | true => have := (empty_iff s).1 h; omega
    by_cases h2 : 32 < s.size
    · have hn := hide (name_no32 h2)
      have i2 : (32 : Int) < (s.size : Int) := by omega
      go_enter Try.func55, Try.ntmps55
      go_wp2
      go_ret
      exact ⟨ret_bool (unhide hn).symm, rfl⟩
    · have i2 : ¬ (32 : Int) < (s.size : Int) := by omega
      go_enter Try.func55, Try.ntmps55
      go_wp2
      go_loop [3] (fun i => ∃ k : Nat, k ≤ s.size ∧ i = .int .i64 k ∧ (0 < k → isLet (byteI s 0) = true) ∧ ∀ j, j < k → okB (byteI s j) = true) (fun i => s.size - (intOf i).toNat)
      case atStart => exact ⟨0, by omega, rfl, fun h => by omega, fun j hj => by omega⟩
      case round =>
        obtain ⟨k, hk, rfl, hl, hz⟩ := hrel
        have Hz := hide hz
        have Hl := hide hl
        clear hz hl
        by_cases hkl : k < s.size
        · have ki0 : (0 : Int) ≤ (k : Int) := by omega
          have ki1 : (k : Int) < (s.size : Int) := by omega
          have hbk := hide (byteI_lt hkl)
          by_cases k0 : k = 0
          · subst k0
            by_cases a : (97 : Int) ≤ (s[0].toNat : Int) ∧ (s[0].toNat : Int) ≤ 122
            · obtain ⟨a1, a2⟩ := a
              have hL : isLet (byteI s 0) = true := by rw [unhide hbk]; simp [isLet, a1, a2]
              have HL := hide hL
              clear hL
              go_wp2
              go_round
              case rel => exact ⟨0 + 1, by omega, by go_num, fun _ => unhide HL, fun j hj => by
                  obtain rfl : j = 0 := by omega
                  simp [okB, unhide HL]⟩
              case measure => simp [intOf]; omega
            · have hN := hide (name_noL (s := s) (by rw [unhide hbk]; simp [isLet]; omega))
              by_cases a1 : (97 : Int) ≤ (s[0].toNat : Int)
              · have a2 : ¬ (s[0].toNat : Int) ≤ 122 := fun h => a ⟨a1, h⟩
                clear a
                go_wp2
                go_ret
                exact ⟨ret_bool (unhide hN).symm, rfl⟩
              · clear a
                go_wp2
                go_ret
                exact ⟨ret_bool (unhide hN).symm, rfl⟩
          · have kd : ((k : Int) == 0) = false := by simp; omega
            cases hok : okB (byteI s k) with
            | true =>
              have Hok := hide hok
              rw [unhide hbk] at hok
              have hparts : ((97 : Int) ≤ (s[k].toNat : Int) ∧ (s[k].toNat : Int) ≤ 122) ∨ (¬ (97 : Int) ≤ (s[k].toNat : Int) ∧ ¬ (s[k].toNat : Int) < 48 ∧ ¬ (57 : Int) < (s[k].toNat : Int)) ∨ (¬ (97 : Int) ≤ (s[k].toNat : Int) ∧ ¬ (s[k].toNat : Int) < 48 ∧ (57 : Int) < (s[k].toNat : Int) ∧ ((s[k].toNat : Int) != 95) = false) := by
                revert hok; unfold okB isLet isDig; simp; omega
              clear hok
              rcases hparts with ⟨p1, p2⟩ | ⟨p1, p2, p3⟩ | ⟨p1, p2, p3, p4⟩
              all_goals
                go_wp2
                go_round
                case rel => exact ⟨k + 1, by omega, by go_num, fun _ => unhide Hl (by omega), fun j hj => by
                  by_cases e : j = k
                  · rw [e]; exact unhide Hok
                  · exact unhide Hz j (by omega)⟩
                case measure => simp [intOf]; omega
            | false =>
              have hn := hide (name_noB hkl hok)
              rw [unhide hbk] at hok
              have hparts : (¬ (97 : Int) ≤ (s[k].toNat : Int) ∧ (s[k].toNat : Int) < 48 ∧ ((s[k].toNat : Int) != 95) = true) ∨ (¬ (97 : Int) ≤ (s[k].toNat : Int) ∧ ¬ (s[k].toNat : Int) < 48 ∧ (57 : Int) < (s[k].toNat : Int) ∧ ((s[k].toNat : Int) != 95) = true) ∨ ((97 : Int) ≤ (s[k].toNat : Int) ∧ ¬ (s[k].toNat : Int) ≤ 122 ∧ ¬ (s[k].toNat : Int) < 48 ∧ (57 : Int) < (s[k].toNat : Int) ∧ ((s[k].toNat : Int) != 95) = true) := by
                revert hok; unfold okB isLet isDig; simp; omega
              clear hok
              rcases hparts with ⟨p1, p2, p3⟩ | ⟨p1, p2, p3, p4⟩ | ⟨p1, p2, p3, p4, p5⟩
              all_goals
                go_wp2
                go_ret
                exact ⟨ret_bool (unhide hn).symm, rfl⟩
        · obtain rfl : k = s.size := by omega
          go_wp2
          go_ret
          exact ⟨ret_bool (name_yes (by omega) (by omega) (unhide Hl (by omega)) (unhide Hz)).symm, rfl⟩

end Go.Proofs.Ytonhagoeajhacaa
