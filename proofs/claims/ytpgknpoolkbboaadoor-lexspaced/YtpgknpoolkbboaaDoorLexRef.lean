/- What the reference's word and sign return, for every text and place. -/
import Derived.Test.YtpgknpoolkbboaaDoorLexRun
namespace Go.Proofs.YtpgknpoolkbboaaDoor
open Go.RowKit
/-- Where the word that goes on at k ends; 0: nowhere. -/
def wR (s : ByteArray) (k : Nat) : Nat := match wl false (s.data.toList.drop k) with | some n => k + n | none => 0
theorem u8_eq {c : UInt8} {n : Nat} (hn : n < 256) (h : ((c.toNat : Int) == (n : Int)) = true) : c = UInt8.ofNat n := by
  have h1 : (c.toNat : Int) = (n : Int) := by simpa using h
  apply UInt8.toNat_inj.1
  rw [UInt8.toNat_ofNat', Nat.mod_eq_of_lt hn]; omega
theorem u8_ne {c : UInt8} {n : Nat} (hn : n < 256) (h : ((c.toNat : Int) == (n : Int)) = false) : (c == UInt8.ofNat n) = false := by
  cases h2 : (c == UInt8.ofNat n) with
  | false => rfl
  | true =>
    have h3 : c = UInt8.ofNat n := by simpa using h2
    rw [h3, UInt8.toNat_ofNat', Nat.mod_eq_of_lt hn] at h
    simp at h
theorem wR_hit {s : ByteArray} {k : Nat} (hk : k < s.size) (h : ((s[k].toNat : Int) == 34) = true) : wR s k = k + 1 := by
  unfold wR; rw [drop_at s k hk, u8_eq (n := 34) (by decide) h]; simp [wl]
theorem wR_bs {s : ByteArray} {k : Nat} (hk : k < s.size) (h : ((s[k].toNat : Int) == 92) = true) : wR s k = wR s (k + 1 + 1) := by
  have e1 : wl false (s.data.toList.drop k) = (wl true (s.data.toList.drop (k + 1))).map (· + 1) := by
    rw [drop_at s k hk, u8_eq (n := 92) (by decide) h]
    conv => lhs; unfold wl
    rfl
  by_cases h2 : k + 1 < s.size
  · have e2 : wl true (s.data.toList.drop (k + 1)) = (wl false (s.data.toList.drop (k + 1 + 1))).map (· + 1) := by
      rw [drop_at s (k + 1) h2]
      conv => lhs; unfold wl
      simp
    unfold wR; rw [e1, e2]
    cases wl false (s.data.toList.drop (k + 1 + 1)) with
    | none => rfl
    | some n => simp; omega
  · unfold wR; rw [e1, drop_end s (k + 1) h2, drop_end s (k + 1 + 1) (by omega)]; rfl
theorem wR_go {s : ByteArray} {k : Nat} (hk : k < s.size) (h : ((s[k].toNat : Int) == 34) = false) (h2 : ((s[k].toNat : Int) == 92) = false) : wR s k = wR s (k + 1) := by
  have e1 : wl false (s.data.toList.drop k) = (wl false (s.data.toList.drop (k + 1))).map (· + 1) := by
    rw [drop_at s k hk]
    conv => lhs; unfold wl
    rw [show (34 : UInt8) = UInt8.ofNat 34 from rfl, show (92 : UInt8) = UInt8.ofNat 92 from rfl, u8_ne (n := 34) (by decide) h, u8_ne (n := 92) (by decide) h2]
    rfl
  unfold wR; rw [e1]
  cases wl false (s.data.toList.drop (k + 1)) with
  | none => rfl
  | some n => simp; omega
theorem wR_end {s : ByteArray} {k : Nat} (h : ¬ k < s.size) : wR s k = 0 := by
  unfold wR; rw [drop_end s k h]; simp [wl]
set_option maxHeartbeats 1000000 in
theorem refWord_any (s : ByteArray) (i : Nat) (w : World) (hi : i < s.size) (hs : s.size ≤ 1000000000) (j : Nat) (HJ : wR s (i + 1) = j) :
    Calls Tryd.prog 61 #[.string s, .int .i64 i] w fun e w' => e = .returned (.int .i64 j) ∧ w' = w := by
  have i1 : (s.size : Int) ≤ 1000000000 := by omega
  have i0 : (0 : Int) ≤ (i : Int) := by omega
  have i2 : (i : Int) < 1000000000 := by omega
  have HI := hide HJ
  clear HJ
  go_enter Tryd.func61, Tryd.ntmps61
  go_wp2
  go_loop [5] (fun v => ∃ k : Nat, k ≤ s.size + 1 ∧ v = .int .i64 k ∧ wR s k = j) (fun v => s.size + 1 - (intOf v).toNat)
  case atStart => exact ⟨i + 1, by omega, by go_num, unhide HI⟩
  case round =>
    clear HI
    obtain ⟨k, hk, rfl, heq⟩ := hrel
    have Heq := hide heq
    clear heq
    have kk : (k : Int) ≤ 1000000001 := by omega
    by_cases hlt : k < s.size
    · have b0 : (0 : Int) ≤ (k : Int) := by omega
      have b1 : (k : Int) < (s.size : Int) := by omega
      cases q2 : ((s[k].toNat : Int) == 92) with
      | true =>
        have Hy := hide ((wR_bs hlt q2).symm.trans (unhide Heq))
        go_wp2
        exact ⟨⟨k + 1 + 1, by omega, by go_num, unhide Hy⟩, by simp [intOf]; omega⟩
      | false =>
        cases q1 : ((s[k].toNat : Int) == 34) with
        | true =>
          have Hy := hide ((wR_hit hlt q1).symm.trans (unhide Heq))
          go_wp2
          go_ret
          exact ⟨ret_int (by have := unhide Hy; omega), rfl⟩
        | false =>
          have Hy := hide ((wR_go hlt q1 q2).symm.trans (unhide Heq))
          go_wp2
          exact ⟨⟨k + 1, by omega, by go_num, unhide Hy⟩, by simp [intOf]; omega⟩
    · have b1 : ¬ (k : Int) < (s.size : Int) := by omega
      have Hy := hide ((wR_end hlt).symm.trans (unhide Heq))
      go_wp2
      go_ret
      exact ⟨ret_int (by have := unhide Hy; omega), rfl⟩
def sgB : ByteArray := ⟨#[123, 125, 91, 93, 40, 41, 44, 33, 124, 38, 42]⟩
theorem sign_step {c : UInt8} {k : Nat} (hk : k < 11) (h : isSign c = (signs.drop k).contains c) (hn : ((signs[k]!.toNat : Int) == (c.toNat : Int)) = false) : isSign c = (signs.drop (k + 1)).contains c := by
  rw [h, List.drop_eq_getElem_cons (by exact hk), List.contains_cons]
  have : (c == signs[k]) = false := by
    cases h2 : (c == signs[k]) with
    | false => rfl
    | true =>
      have h3 : c = signs[k] := by simpa using h2
      rw [getElem!_pos signs k hk, ← h3] at hn
      simp at hn
  rw [this]; rfl
theorem sign_hit {c : UInt8} {k : Nat} (hk : k < 11) (h : isSign c = (signs.drop k).contains c) (hn : ((signs[k]!.toNat : Int) == (c.toNat : Int)) = true) : isSign c = true := by
  rw [h, List.drop_eq_getElem_cons (by exact hk), List.contains_cons]
  have h1 : (signs[k]!.toNat : Int) = (c.toNat : Int) := by simpa using hn
  rw [getElem!_pos signs k hk] at h1
  have : c = signs[k] := UInt8.toNat_inj.1 (by omega)
  rw [this]; simp
theorem sg_get {k : Nat} (hk : k < 11) : ((⟨#[123, 125, 91, 93, 40, 41, 44, 33, 124, 38, 42]⟩ : ByteArray)[k]'(by exact hk)) = signs[k]! := by
  have hk2 : k = 0 ∨ k = 1 ∨ k = 2 ∨ k = 3 ∨ k = 4 ∨ k = 5 ∨ k = 6 ∨ k = 7 ∨ k = 8 ∨ k = 9 ∨ k = 10 := by omega
  rcases hk2 with rfl | rfl | rfl | rfl | rfl | rfl | rfl | rfl | rfl | rfl | rfl <;> rfl
set_option maxHeartbeats 1000000 in
theorem refSign_any (c : UInt8) (w : World) :
    Calls Tryd.prog 63 #[.int .u8 (c.toNat : Int)] w fun e w' => e = .returned (.bool (isSign c)) ∧ w' = w := by
  go_enter Tryd.func63, Tryd.ntmps63
  go_wp2
  go_loop [3] (fun v => ∃ k : Nat, k ≤ 11 ∧ v = .int .i64 k ∧ isSign c = (signs.drop k).contains c) (fun v => 11 - (intOf v).toNat)
  case atStart => exact ⟨0, by omega, rfl, rfl⟩
  case round =>
    obtain ⟨k, hk, rfl, heq⟩ := hrel
    have Heq := hide heq
    clear heq
    by_cases hlt : k < 11
    · have b0 : (0 : Int) ≤ (k : Int) := by omega
      have b1 : (k : Int) < 11 := by omega
      have hg := sg_get hlt
      cases q : ((((⟨#[123, 125, 91, 93, 40, 41, 44, 33, 124, 38, 42]⟩ : ByteArray)[k]'(by exact hlt)).toNat : Int) == (c.toNat : Int)) with
      | true =>
        have Hy := hide (sign_hit hlt (unhide Heq) (by rw [← hg]; exact q))
        clear hg
        go_wp2
        go_ret
        exact ⟨ret_bool (unhide Hy).symm, rfl⟩
      | false =>
        have Hy := hide (sign_step hlt (unhide Heq) (by rw [← hg]; exact q))
        clear hg
        go_wp2
        exact ⟨⟨k + 1, by omega, by go_num, unhide Hy⟩, by simp [intOf]; omega⟩
    · have b1 : ¬ (k : Int) < 11 := by omega
      obtain rfl : k = 11 := by omega
      have Hy := hide (show isSign c = false by rw [unhide Heq]; rfl)
      go_wp2
      go_ret
      exact ⟨ret_bool (unhide Hy).symm, rfl⟩
end Go.Proofs.YtpgknpoolkbboaaDoor
