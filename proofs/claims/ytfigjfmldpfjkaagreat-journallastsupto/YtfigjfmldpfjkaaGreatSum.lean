/- What record.Sum and the reference's Sum answer: the sum of all bytes. -/
import Derived.Test.YtfigjfmldpfjkaaGreatBase
import Derived.Laws.BitsAll
namespace Go.Proofs.YtfigjfmldpfjkaaGreat
open Go.RowKit Go.Sort

theorem u32x (a b : Nat) (ha : a < 4294967296) (hb : b < 4294967296) : bits .xor .u32 (a : Int) (b : Int) = ((a ^^^ b : Nat) : Int) := u32_xor_nat a b ha hb
theorem u32_one (a : Nat) (ha : a < 4294967296) : bits .and .u32 (a : Int) 1 = ((a % 2 : Nat) : Int) := by
  have := u32_and_nat a 1 ha (by omega)
  rw [Nat.and_one_is_mod] at this
  exact this
theorem wrap32 (a : Nat) (ha : a < 4294967296) : IntKind.u32.wrap (a : Int) = (a : Int) := by rw [IntKind.wrap_u32']; omega

set_option maxHeartbeats 1000000 in
theorem stir_any (s : Nat) (hs : s < 4294967296) (w : World) :
    Calls Tryz.prog 142 #[.int .u32 (s : Int)] w fun e w' => e = .returned (.int .u32 ((stirs 8 s : Nat) : Int)) ∧ w' = w := by
  go_enter Tryz.func142, Tryz.ntmps142
  go_wp2
  go_loopw [0, 4] (fun v i wr => ∃ k : Nat, k ≤ 8 ∧ i = .int .i64 (k : Int) ∧ v = .int .u32 ((stirs k s : Nat) : Int) ∧ wr = w) (fun _ i _ => 8 - (intOf i).toNat)
  case atStart => exact ⟨0, Nat.zero_le _, rfl, rfl, rfl⟩
  case round =>
    obtain ⟨k, hk, rfl, rfl, rfl⟩ := hrel
    have hlt0 := stirs_lt k hs
    have hsn := hide (stirs_snoc k s)
    generalize hT : stirs k s = t at hlt0 hsn ⊢
    have HT := hide hT
    clear hT
    obtain ⟨u, hu⟩ : ∃ u : Nat, t / 2 = u := ⟨_, rfl⟩
    have h1 := u32_one t hlt0
    have h2 : bits .xor .u32 (u : Int) 3988292384 = ((u ^^^ 3988292384 : Nat) : Int) := u32x u 3988292384 (by omega) (by omega)
    have h3 : (t : Int) / 2 = (u : Int) := by omega
    by_cases hk8 : k < 8
    · have hk8' : (k : Int) < 8 := by omega
      by_cases ho : t % 2 = 1
      · have hs1 := hide (show stir1 t = u ^^^ 3988292384 by unfold stir1; rw [if_pos ho, hu])
        have ho' : ((t % 2 : Nat) : Int) = 1 := by omega
        rw [ho'] at h1
        clear ho ho' hu
        go_wp2
        go_roundw
        case rel => exact ⟨k + 1, by omega, by go_num, by rw [unhide hsn, unhide hs1], trivial⟩
        case measure => simp [intOf]; omega
      · have hs1 := hide (show stir1 t = u by unfold stir1; rw [if_neg ho, hu])
        have ho' : ((t % 2 : Nat) : Int) = 0 := by omega
        rw [ho'] at h1
        clear ho ho' hu
        go_wp2
        go_roundw
        case rel => exact ⟨k + 1, by omega, by go_num, by rw [unhide hsn, unhide hs1], trivial⟩
        case measure => simp [intOf]; omega
    · obtain rfl : k = 8 := by omega
      go_wp2
      go_ret
      exact ⟨ret_int (by rw [unhide HT]), rfl⟩

/-- All bytes of several lists. -/
def allB (ps : List Sl) : List UInt8 := (ps.map (·.2.2)).flatten
theorem allB_snoc (ps : List Sl) (x : Sl) : allB (ps ++ [x]) = allB ps ++ x.2.2 := by unfold allB; simp
set_option maxHeartbeats 2000000 in
theorem sum_any (q : Option Addr) (c : Nat) (ps : List Sl) (w : World) (h : SlOf encQ 1 w q c ps) (hn : ps.length ≤ 100000000000000) (hp : ∀ x ∈ ps, SlOf encB 1 w x.1 x.2.1 x.2.2 ∧ x.2.2.length ≤ 1000000000000000) :
    Calls Tryz.prog 129 #[.slice q ps.length c] w fun e w' => e = .returned (.int .u32 ((sumB (allB ps) : Nat) : Int)) ∧ w' = w := by
  have hst := fun (s : Nat) (hs : s < 4294967296) => stir_any s hs w
  go_enter Tryz.func129, Tryz.ntmps129
  go_wp2
  go_loopw [3, 10] (fun v i wr => ∃ k : Nat, k ≤ ps.length ∧ i = .int .i64 (k : Int) ∧ v = .int .u32 ((crc 4294967295 (allB (ps.take k)) : Nat) : Int) ∧ wr = w) (fun _ i _ => ps.length - (intOf i).toNat)
  case atStart => exact ⟨0, Nat.zero_le _, rfl, rfl, rfl⟩
  case round =>
    obtain ⟨k, hk, rfl, rfl, rfl⟩ := hrel
    have hlt0 := crc_lt (allB (ps.take k)) (s := 4294967295) (by omega)
    by_cases hlt : k < ps.length
    · obtain ⟨x, hx, _⟩ := get_at hlt
      obtain ⟨b, off, hq, hb, c0⟩ := sliceAt h hx
      obtain ⟨hxs, hxl⟩ := hp x (List.mem_of_getElem? hx)
      have hsn := hide (show allB (ps.take (k + 1)) = allB (ps.take k) ++ x.2.2 by rw [take_snoc_of hx, allB_snoc])
      generalize hT : allB (ps.take k) = T at hlt0 hsn ⊢
      clear hT hx
      obtain ⟨xq, xc, xl⟩ := x
      subst hq
      simp only at hxs hxl c0 hsn
      have ki0 : (0 : Int) ≤ (k : Int) := by omega
      have ki1 : (k : Int) < (ps.length : Int) := by omega
      clear h hp
      go_wp2
      go_loopw [3, 16] (fun v i wr' => ∃ m : Nat, m ≤ xl.length ∧ i = .int .i64 (m : Int) ∧ v = .int .u32 ((crc 4294967295 (T ++ xl.take m) : Nat) : Int) ∧ wr' = wr) (fun _ i _ => xl.length - (intOf i).toNat)
      case atStart => exact ⟨0, Nat.zero_le _, rfl, by simp, rfl⟩
      case round =>
        obtain ⟨m, hm, rfl, rfl, rfl⟩ := hrel
        by_cases hml : m < xl.length
        · obtain ⟨y, hy, _⟩ := get_at hml
          obtain ⟨b2, off2, hq2, hb2, d0⟩ := byteAt hxs hy
          have hs2 := hide (show crc 4294967295 (T ++ xl.take (m + 1)) = stirs 8 (crc 4294967295 (T ++ xl.take m) ^^^ y.toNat) by rw [take_snoc_of hy, ← List.append_assoc, crc_snoc])
          have hl1 := crc_lt (T ++ xl.take m) (s := 4294967295) (by omega)
          generalize crc 4294967295 (T ++ xl.take m) = A at hs2 hl1 ⊢
          have e1 := wrap32 y.toNat (byte_lt y)
          have e2 := u32x A y.toNat hl1 (byte_lt y)
          have hst1 := hst (A ^^^ y.toNat) (xor_lt hl1 (byte_lt y))
          have mi0 : (0 : Int) ≤ (m : Int) := by omega
          have mi1 : (m : Int) < (xl.length : Int) := by omega
          subst hq2
          clear hst hxs hy
          go_wp2_with (go_at_call 142; refine hst1.mono ?_; rintro e w1 ⟨rfl, rfl⟩)
          go_roundw
          case rel => exact ⟨m + 1, by omega, by go_num, by rw [unhide hs2], trivial⟩
          case measure => simp [intOf]; omega
        · obtain rfl : m = xl.length := by omega
          have mi1 : ¬ (xl.length : Int) < (xl.length : Int) := by omega
          go_wp2
          go_roundw
          case rel => exact ⟨k + 1, by omega, by go_num, by rw [unhide hsn, List.take_length], trivial⟩
          case measure => simp [intOf]; omega
    · obtain rfl : k = ps.length := by omega
      rw [List.take_length] at hlt0 ⊢
      have e2 := u32x 4294967295 (crc 4294967295 (allB ps)) (by omega) hlt0
      have HS := hide (show sumB (allB ps) = 4294967295 ^^^ crc 4294967295 (allB ps) by unfold sumB; rw [Nat.xor_comm])
      have ki1 : ¬ (ps.length : Int) < (ps.length : Int) := by omega
      generalize crc 4294967295 (allB ps) = A at e2 HS ⊢
      clear h hp
      go_wp2
      go_ret
      exact ⟨ret_int (by rw [unhide HS]; exact e2), rfl⟩
end Go.Proofs.YtfigjfmldpfjkaaGreat
