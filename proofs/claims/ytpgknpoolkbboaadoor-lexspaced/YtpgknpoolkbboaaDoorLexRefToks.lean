/- What the reference's Tokens returns, for every text: the same. -/
import Derived.Test.YtpgknpoolkbboaaDoorLexToks
import Derived.Test.YtpgknpoolkbboaaDoorLexRefAt
namespace Go.Proofs.YtpgknpoolkbboaaDoor
open Go.RowKit

theorem toksL_blank {s : ByteArray} {k : Nat} (hk : k < s.size) (h : isBlank (s[k].toNat : Int) = true) : toksL (s.data.toList.drop k) k = toksL (s.data.toList.drop (k + 1)) (k + 1) := by
  rw [toksL_skip (s.data.toList.drop k) k, toksL_skip (s.data.toList.drop (k + 1)) (k + 1)]
  rw [drop_at s k hk, rl_yes h, List.drop_succ_cons]
  rw [show k + (rl isBlank (s.data.toList.drop (k + 1)) + 1) = k + 1 + rl isBlank (s.data.toList.drop (k + 1)) by omega]
/-- Up to the place k the tokens l1 have been found; blanks may follow. -/
def SeenB (s : ByteArray) (l1 : List Tok) (k : Nat) : Prop :=
  k ≤ s.size ∧ l1.length ≤ k ∧ toksL s.data.toList 0 = (l1 ++ (toksL (s.data.toList.drop k) k).1, (toksL (s.data.toList.drop k) k).2)
theorem SeenB.blank {s : ByteArray} {l1 : List Tok} {k : Nat} (h : SeenB s l1 k) (hk : k < s.size) (hb : isBlank (s[k].toNat : Int) = true) : SeenB s l1 (k + 1) := by
  refine ⟨by omega, by have := h.2.1; omega, ?_⟩
  rw [← toksL_blank hk hb]; exact h.2.2
theorem noblank {s : ByteArray} {k : Nat} (hk : k < s.size) (hb : isBlank (s[k].toNat : Int) = false) : rl isBlank (s.data.toList.drop k) = 0 := by
  rw [drop_at s k hk, rl_no hb]
theorem SeenB.next {s : ByteArray} {l1 : List Tok} {k : Nat} (h : SeenB s l1 k) (hk : k < s.size) (hb : isBlank (s[k].toNat : Int) = false) {kd : Int} {n : Nat} {v : Int} {t : ByteArray} (ht : tokL (s.data.toList.drop k) = some (kd, n, v, t)) :
    SeenB s (l1 ++ [(kd, (k : Int), ((k + n : Nat) : Int), v, t)]) (k + n) := by
  obtain ⟨h1, h2, h4⟩ := h
  have hn := tokL_len ht
  simp only [List.length_drop, Array.length_toList] at hn
  have hsz : s.data.size = s.size := rfl
  refine ⟨by omega, by simp; omega, ?_⟩
  rw [h4, toksL_next hk (noblank hk hb) ht]
  simp
theorem SeenB.bad {s : ByteArray} {l1 : List Tok} {k : Nat} (h : SeenB s l1 k) (hk : k < s.size) (hb : isBlank (s[k].toNat : Int) = false) (ht : tokL (s.data.toList.drop k) = none) : toksL s.data.toList 0 = (l1, some k) := by
  rw [h.2.2, toksL_stop hk (noblank hk hb) ht]; simp
theorem SeenB.done {s : ByteArray} {l1 : List Tok} {k : Nat} (h : SeenB s l1 k) (hk : ¬ k < s.size) : toksL s.data.toList 0 = (l1, none) := by
  rw [h.2.2, toksL_fin hk]; simp

set_option maxHeartbeats 400000 in
theorem refTokens_long (s : ByteArray) (w : World) (hs : 4096 < s.size) :
    Calls Tryd.prog 11 #[.string s] w fun e w' => e = .returned (.tuple #[.slice none 0 0, .int .i64 4096, .int .i64 10]) ∧ w' = w := by
  have a0 : (4096 : Int) < (s.size : Int) := by omega
  go_enter Tryd.func11, Tryd.ntmps11
  go_wp2
  refine bodyPost_ret (v := .tuple #[.slice none 0 0, .int .i64 4096, .int .i64 10]) (by simp [results, Tryd.results11, go_sem]) rfl ⟨rfl, rfl⟩

set_option maxHeartbeats 2000000 in
theorem refTokens_any (s : ByteArray) (w : World) (hs : s.size ≤ 4096) :
    Calls Tryd.prog 11 #[.string s] w fun e w' => ToksPost w.heap.size w' (toksL s.data.toList 0) e ∧ Below w.heap.size w w' := by
  have a0 : (s.size : Int) ≤ 4096 := by omega
  have HS := hide (show SeenB s [] 0 from ⟨by omega, by simp, by simp⟩)
  go_enter Tryd.func11, Tryd.ntmps11
  go_wp2
  go_loopw [5, 6] (fun v a wr => ∃ (l1 : List Tok) (q : Option Addr) (cap k : Nat), v = .slice q l1.length cap ∧ a = .int .i64 k ∧ SeenB s l1 k ∧ Below w.heap.size w wr ∧ OwnK encT 31 5 w.heap.size wr q cap l1) (fun _ a _ => s.size - (intOf a).toNat)
  case atStart => exact ⟨[], none, 0, 0, rfl, rfl, unhide HS, Below.refl _ _, OwnK.nil _ _⟩
  case round =>
    clear HS
    obtain ⟨l1, q, cap, k, rfl, rfl, hseen, hbel, hown⟩ := hrel
    have hks := hseen.1
    have hlk := hseen.2.1
    have HS := hide hseen
    have HB := hide hbel
    have HO := hide hown
    clear hseen hbel hown
    by_cases hlt : k < s.size
    · have b0 : (0 : Int) ≤ (k : Int) := by omega
      have b1 : (k : Int) < (s.size : Int) := by omega
      have hbl := fun w => refBlank_any (s[k].toNat : Int) w
      cases hq : isBlank (s[k].toNat : Int) with
      | true =>
        have Hy := hide ((unhide HS).blank hlt hq)
        rw [hq] at hbl
        clear hq
        go_wp2_with (go_at_call 14; refine (hbl _).mono ?_; rintro e w' ⟨rfl, rfl⟩)
        exact ⟨⟨l1, q, cap, k + 1, rfl, by go_num, unhide Hy, unhide HB, unhide HO⟩, by simp [intOf]; omega⟩
      | false =>
        have hta := refTok_any s k wr hlt (by omega)
        cases ht : tokL (s.data.toList.drop k) with
        | none =>
          have Hbad := hide ((unhide HS).bad hlt hq ht)
          rw [ht] at hta
          rw [hq] at hbl
          clear ht hq
          go_wp2_with (first
            | (go_at_call 14; refine (hbl _).mono ?_; rintro e w' ⟨rfl, rfl⟩)
            | (go_at_call 30; refine hta.mono ?_; rintro e w1 ⟨he, hb⟩; have Hb := hide hb; clear hb; rcases he with ⟨hno, _⟩ | ⟨_, x1, x2, x3, x4, x5, rfl⟩; exact absurd rfl hno))
          refine bodyPost_ret (v := .tuple #[.slice none 0 0, .int .i64 k, .int .i64 10]) (by simp [results, Tryd.results11, go_sem]) rfl ?_
          refine ⟨Or.inl ⟨k, by rw [unhide Hbad], rfl⟩, ?_⟩
          exact (below_sub (unhide HB) (unhide Hb)).alloc (below_sub (unhide HB) (unhide Hb)).size _
        | some x =>
          obtain ⟨kd, n, v, t⟩ := x
          have hn := tokL_len ht
          simp only [List.length_drop, Array.length_toList] at hn
          have hsz : s.data.size = s.size := rfl
          have Hnext := hide ((unhide HS).next hlt hq ht)
          rw [ht] at hta
          rw [hq] at hbl
          clear ht hq
          obtain ⟨m, Hm⟩ : ∃ m, k + n = m := ⟨_, rfl⟩
          have hta : Calls Tryd.prog 30 #[.string s, .int .i64 k] wr fun e w' => e = .returned (.tuple #[.agg #[.int .i64 kd, .int .i64 k, .int .i64 m, .int .i64 v, .string t], .bool true]) ∧ Below wr.heap.size wr w' := hta.mono fun e w' ⟨he, hb⟩ => ⟨by
            rcases he with ⟨_, he⟩ | ⟨h, _⟩
            · rw [he, ← Hm]; rfl
            · exact absurd h (by simp), hb⟩
          rw [Hm] at Hnext
          have HKJ := hide (show k < m by omega)
          clear Hm
          go_wp2_with (first
            | (go_at_call 14; refine (hbl _).mono ?_; rintro e w' ⟨rfl, rfl⟩)
            | (go_at_call 30; refine hta.mono ?_; rintro e w1 ⟨rfl, hb⟩; have Hb := hide hb; clear hb)
            | (at_builtin; refine wpList_app rowT rfl _ _ rfl w.heap.size q cap l1 (some ⟨w1.heap.size + 1, 0, none⟩) 1 [(kd, (k : Int), (m : Int), v, t)] l1.length 1 (l1.length + 1) rfl rfl rfl rfl rfl ((unhide HO).below (((unhide Hb).alloc (unhide Hb).size _).alloc (by have := (unhide Hb).size; simp; omega) _)) (SrcK.ofT (fun h => by cases h) (TksOf.one (by simp) (by go_simp) (by go_simp) (by go_simp) (by go_simp) (by go_simp))) (by unfold maxLen; omega) (by omega) (by have h1 := (unhide HB).size; have h2 := (unhide Hb).size; simp; omega) ?_; intro q2 cap2 w2 hown2 hb2 _ hg2; have ct : w2.cell? ⟨w1.heap.size, 2, none⟩ = some (.int .i64 m) := (hg2.cell (a := ⟨w1.heap.size, 2, none⟩) (by go_simp) (own_far (unhide HO) (unhide Hb))); have HO2 := hide hown2; have HB2 := hide ((((below_sub (unhide HB) (unhide Hb)).alloc (below_sub (unhide HB) (unhide Hb)).size _).alloc (by have := (below_sub (unhide HB) (unhide Hb)).size; simp; omega) _).trans hb2); clear hown2 hb2 hg2))
          exact ⟨⟨l1 ++ [(kd, (k : Int), (m : Int), v, t)], q2, cap2, m, by simp, rfl, unhide Hnext, unhide HB2, unhide HO2⟩, by have := unhide HKJ; simp [intOf]; omega⟩
    · have b1 : ¬ (k : Int) < (s.size : Int) := by omega
      have Hdone := hide ((unhide HS).done hlt)
      go_wp2
      refine bodyPost_ret (v := .tuple #[.slice q l1.length cap, .int .i64 0, .int .i64 0]) (by simp [results, Tryd.results11, go_sem]) rfl ?_
      refine ⟨Or.inr ⟨by rw [unhide Hdone], q, cap, by rw [unhide Hdone], by rw [unhide Hdone]; exact unhide HO⟩, unhide HB⟩
end Go.Proofs.YtpgknpoolkbboaaDoor
