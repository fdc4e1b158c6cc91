/- What the reference's Quote returns: what the program's does. -/
import Derived.Test.YtpgknpoolkbboaaDoorText
namespace Go.Proofs.YtpgknpoolkbboaaDoor
open Go.RowKit

theorem esc_needs {c : UInt8} (h : needs c = true) : esc c = [92, c] := by unfold esc; rw [if_pos h]
theorem esc_prints {c : UInt8} (h : needs c = false) (hp : prints c = true) : esc c = [c] := by unfold esc; rw [if_neg (by simp [h]), if_pos hp]
theorem esc_hex {c : UInt8} (hp : prints c = false) : esc c = [92, 120, hexd (c.toNat / 16), hexd (c.toNat % 16)] := by
  have h : needs c = false := by
    rw [needs_eq]; rw [prints_eq] at hp
    simp at hp ⊢; omega
  unfold esc; rw [if_neg (by simp [h]), if_neg (by simp [hp])]
theorem row_one {B : Nat} {w : World} (hB : B ≤ w.heap.size) : Row B (w.alloc (.cells #[.int .u8 34] 5)) (.slice (some ⟨w.heap.size, 0, none⟩) 1 1) (34 :: escs []) := by
  refine ⟨rfl, .inr ⟨w.heap.size, 1, #[.int .u8 34], rfl, hB, heap_alloc_new _ _, Nat.le_refl _, by unfold maxLen; omega, rfl, rfl⟩⟩

theorem div_facts (c : UInt8) : (c.toNat : Int).tdiv 16 = (c.toNat : Int) / 16 ∧ (c.toNat : Int).tmod 16 = (c.toNat : Int) % 16 ∧ IntKind.u8.wrap ((c.toNat : Int) / 16) = (c.toNat : Int) / 16 ∧ IntKind.u8.wrap ((c.toNat : Int) % 16) = (c.toNat : Int) % 16 ∧ ((c.toNat : Int) / 16) % 256 = (c.toNat : Int) / 16 ∧ ((c.toNat : Int) % 16) % 256 = (c.toNat : Int) % 16 := by
  have := c.toNat_lt
  have e : (2 : Int) ^ IntKind.u8.bits = 256 := by decide
  refine ⟨Int.tdiv_eq_ediv_of_nonneg (by omega), Int.tmod_eq_emod_of_nonneg (by omega), ?_, ?_, by omega, by omega⟩
  · simp [IntKind.wrap, e, show IntKind.u8.signed = false from rfl]; omega
  · simp [IntKind.wrap, e, show IntKind.u8.signed = false from rfl]; omega

set_option maxRecDepth 100000 in
set_option maxHeartbeats 1000000 in
theorem refQuote_any (s : ByteArray) (w : World) (hs : s.size ≤ 1000000000000) :
    Calls Tryd.prog 115 #[.string s] w fun e w' => e = .returned (.string (quoteB s)) ∧ Below w.heap.size w w' := by
  obtain ⟨i0, hi, hz0, hz1, hz2⟩ := info_parts Tryd.info5
  have R := row_one (w := w) (Nat.le_refl _)
  go_enter Tryd.func115, Tryd.ntmps115
  go_wp2
  go_loopw [3, 4] (fun v i wr => ∃ k : Nat, k ≤ s.size ∧ i = .int .i64 k ∧ Row w.heap.size wr v (34 :: escs (s.data.toList.take k)) ∧ Below w.heap.size w wr) (fun _ i _ => s.size - (intOf i).toNat)
  case atStart => exact ⟨0, Nat.zero_le _, rfl, R, (Below.refl _ _).alloc (Nat.le_refl _) _⟩
  case round =>
    clear R
    obtain ⟨k, hk, rfl, hrow, hb⟩ := hrel
    have hle := escs_le (s.data.toList.take k)
    have hl : (s.data.toList.take k).length ≤ k := List.length_take_le _ _
    by_cases hlt : k < s.size
    · have hsn := hide (escs_snoc (s.data.toList.take k) s[k])
      have hts := hide (take_snoc s k hlt)
      have hlb : (34 :: escs (s.data.toList.take k)).length ≤ 5000000000000 := by simp; omega
      generalize hL : (34 :: escs (s.data.toList.take k)) = L at hrow hlb
      have HL := hide hL
      clear hL hle hl
      unfold Row at hrow
      have hBs := hb.size
      have hc := s[k].toNat_lt
      cases hp : prints s[k]
      · have he := hide (esc_hex hp)
        rw [prints_eq] at hp
        have hd := hide (And.intro (show 0 ≤ (s[k].toNat : Int) / 16 by omega) (And.intro (show (s[k].toNat : Int) / 16 < 16 by omega) (And.intro (show 0 ≤ (s[k].toNat : Int) % 16 by omega) (show (s[k].toNat : Int) % 16 < 16 by omega))))
        clear hc
        have hcase : (s[k].toNat : Int) < 32 ∨ (¬ (s[k].toNat : Int) < 32 ∧ (126 : Int) < s[k].toNat) := by simp at hp; omega
        clear hp
        rcases hcase with h32 | ⟨h32, h126⟩
        all_goals
          go_wp2
          obtain ⟨b1, b2, b3, b4⟩ := unhide hd
          clear hd
          obtain ⟨e1, e2, e3, e4, e5, e6⟩ := div_facts s[k]
          go_region_held3 (fun _ => True) (go_keep)
            ((refine step_append_lies _ (by rfl) _ _ _ (by rfl) w.heap.size 5 i0 (.int .u8 0) 1 1 Tryd.underlying32 hi hz0 hz1 hz2 (by rfl) (by decide) u3 L.length (L.map bv) (by rfl) (by exact (hrow.alloc _)) _ 4 4 _ (by rfl) (by rfl) (World.news_of_block (heap_alloc_new _ _)) (by simp [Value.oneCell']) (by decide) (by unfold maxLen; omega) (by omega) (by simp; omega) _ rfl ?_; intro g cap w1 hown1 hgrow hat hlt2))
        all_goals
          rw [hexAt, hexAt, show ((s[k].toNat : Int) / 16).toNat = s[k].toNat / 16 from by omega, show ((s[k].toNat : Int) % 16).toNat = s[k].toNat % 16 from by omega] at hown1
          have R2 := hide (And.intro (row_of (m := [92, 120, hexd (s[k].toNat / 16), hexd (s[k].toNat % 16)]) rfl hown1) (grown_row hrow hBs (((Below.refl _ _).alloc hBs _).drew) (by simp) hgrow))
          clear hown1 hgrow hat hlt2 e1 e2 e3 e4 e5 e6
          go_wp2
          go_roundw
          case rel => exact ⟨k + 1, by omega, by go_num, by rw [unhide hts, unhide hsn, ← List.cons_append, unhide HL, unhide he]; exact (unhide R2).1, hb.trans (unhide R2).2⟩
          case measure => simp [intOf]; omega
      · clear hc
        cases hn : needs s[k]
        · have he := hide (esc_prints hn hp)
          rw [prints_eq] at hp
          rw [needs_eq] at hn
          simp only [Bool.and_eq_true, decide_eq_true_eq, Bool.or_eq_false_iff] at hp hn
          obtain ⟨p1, p2⟩ := hp
          obtain ⟨n1, n2⟩ := hn
          go_wp2_with (at_builtin; go_must (refine wpList_append_own _ rfl _ _ 32 rfl w.heap.size 5 i0 (.int .u8 0) 1 1 Tryd.underlying32 hi hz0 hz1 hz2 rfl (by decide) _ _ _ rfl (hrow.alloc _) ⟨_, 0, none⟩ 1 1 [bv s[k]] rfl rfl news1 (bv_one [s[k]]) (by unfold maxLen; omega) (by omega) (by simp; omega) ?_); intro v2 w2 hown2 hgrow2 hn2; have R2 := hide (And.intro (row_of (m := [s[k]]) rfl hown2) (grown_row hrow hBs ((Below.refl _ _).alloc hBs _) (by simp) hgrow2)); clear hown2 hgrow2 hn2)
          go_roundw
          case rel => exact ⟨k + 1, by omega, by go_num, by rw [unhide hts, unhide hsn, ← List.cons_append, unhide HL, unhide he]; exact (unhide R2).1, hb.trans (unhide R2).2⟩
          case measure => simp [intOf]; omega
        · have he := hide (esc_needs hn)
          rw [prints_eq] at hp
          rw [needs_eq] at hn
          simp only [Bool.and_eq_true, decide_eq_true_eq] at hp
          obtain ⟨p1, p2⟩ := hp
          have hcase : ((s[k].toNat : Int) == 34) = true ∨ (((s[k].toNat : Int) == 34) = false ∧ ((s[k].toNat : Int) == 92) = true) := by
            cases h34 : ((s[k].toNat : Int) == 34)
            · right; rw [h34] at hn; simpa using hn
            · left; rfl
          clear hn
          rcases hcase with n1 | ⟨n1, n2⟩
          all_goals
            go_wp2_with (first
              | (at_builtin; refine wpList_append_own _ rfl (.tmp 37) (.tmp 38) 32 rfl w.heap.size 5 i0 (.int .u8 0) 1 1 Tryd.underlying32 hi hz0 hz1 hz2 rfl (by decide) _ _ _ rfl (hrow.alloc _) ⟨_, 0, none⟩ 1 1 [bv 92] rfl rfl news1 (bv_one [92]) (by unfold maxLen; omega) (by omega) (by simp; omega) ?_; intro v2 w2 hown2 hgrow2 hn2; have R2 := hide (And.intro (row_of (m := [92]) rfl hown2) (grown_row hrow hBs ((Below.refl _ _).alloc hBs _) (by simp) hgrow2)); clear hown2 hgrow2 hn2; have hBs2 : w.heap.size ≤ w2.heap.size := (by have := (unhide R2).2.size; omega); have hl2 : (L ++ [92]).length ≤ 5000000000001 := (by simp; omega); have hrow2 : w2.ownsRow w.heap.size 5 1 v2 (L ++ [92]).length ((L ++ [92]).map bv) := (unhide R2).1; generalize hM : L ++ [92] = M at hrow2 hl2; have HM := hide hM; clear hM)
              | (at_builtin; refine wpList_append_own _ rfl (.tmp 40) (.tmp 42) 32 rfl w.heap.size 5 i0 (.int .u8 0) 1 1 Tryd.underlying32 hi hz0 hz1 hz2 rfl (by decide) _ _ _ rfl (hrow2.alloc _) ⟨_, 0, none⟩ 1 1 [bv s[k]] rfl rfl news1 (bv_one [s[k]]) (by unfold maxLen; omega) (by omega) (by simp; omega) ?_; intro v3 w3 hown3 hgrow3 hn3; have R3 := hide (And.intro (row_of (m := [s[k]]) rfl hown3) (grown_row hrow2 hBs2 ((Below.refl _ _).alloc hBs2 _) (by simp) hgrow3)); clear hown3 hgrow3 hn3))
            go_roundw
            case rel => exact ⟨k + 1, by omega, by go_num, by rw [unhide hts, unhide hsn, ← List.cons_append, unhide HL, unhide he, show L ++ [92, s[k]] = (L ++ [92]) ++ [s[k]] by simp, unhide HM]; exact (unhide R3).1, (hb.trans (unhide R2).2).trans (unhide R3).2⟩
            case measure => simp [intOf]; omega
    · have hend := hide (List.take_of_length_le (l := s.data.toList) (i := k) (by simp; omega))
      unfold Row at hrow
      go_wp2_with (at_builtin; refine wpList_append_own _ rfl _ _ 32 rfl w.heap.size 5 i0 (.int .u8 0) 1 1 Tryd.underlying32 hi hz0 hz1 hz2 rfl (by decide) _ _ _ rfl (hrow.alloc _) ⟨_, 0, none⟩ 1 1 [bv 34] rfl rfl news1 (bv_one [34]) (by unfold maxLen; simp; omega) (by simp; omega) (by have := hb.size; simp; omega) ?_; intro v2 w2 hown2 hgrow2 hn2; have hcv := conv_row (row_of (m := [34]) rfl hown2) (by simp); have hB := hide (grown_row hrow hb.size ((Below.refl _ _).alloc hb.size _) (by simp) hgrow2); clear hown2 hgrow2 hn2 hrow)
      go_ret
      exact ⟨ret_str (by rw [unhide hend]; rfl), hb.trans (unhide hB)⟩
end Go.Proofs.YtpgknpoolkbboaaDoor
