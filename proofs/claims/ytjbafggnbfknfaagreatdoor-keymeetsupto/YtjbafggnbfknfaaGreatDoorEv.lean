/- key.Event over the first pairs of the names. -/
import Derived.Test.YtjbafggnbfknfaaGreatDoorZad
import Derived.Test.YtjbafggnbfknfaaGreatDoorPair
namespace Go.Proofs.YtjbafggnbfknfaaGreatDoor
open Go.RowKit Go.Sort Go.Shelf

/-- The keys of a pair. -/
def evKeys (x : Pr) : List Ky := if chkV x.kind x.num x.word = 0 then (if x.kind = 1 then numKeys x.name x.num (x.num + 2147483648).toNat else wordKeys x.name x.word) else []
theorem chk_is (k n : Int) (s : ByteArray) : (chkV k n s = 0 ∧ ((k = 1 ∧ -2147483648 ≤ n ∧ n ≤ 2147483647 ∧ s.size = 0) ∨ (k = 2 ∧ n = 0 ∧ s.size ≤ 64))) ∨ (chkV k n s = 1 ∧ ¬ ((k = 1 ∧ -2147483648 ≤ n ∧ n ≤ 2147483647 ∧ s.size = 0) ∨ (k = 2 ∧ n = 0 ∧ s.size ≤ 64))) := by
  unfold chkV
  by_cases h : (k = 1 ∧ -2147483648 ≤ n ∧ n ≤ 2147483647 ∧ s.size = 0) ∨ (k = 2 ∧ n = 0 ∧ s.size ≤ 64)
  · exact Or.inl ⟨if_pos h, h⟩
  · exact Or.inr ⟨if_neg h, h⟩
theorem evKeys_len (x : Pr) : (evKeys x).length ≤ 66 := by
  unfold evKeys
  rcases chk_is x.kind x.num x.word with ⟨h, h2⟩ | ⟨h, _⟩
  · rw [if_pos h]
    split
    · simp [numKeys, pathL_len]
    · next hk =>
      rcases h2 with h2 | h2
      · exact absurd h2.1 hk
      · simp [wordKeys]; omega
  · rw [if_neg (by omega)]; simp
theorem ev_len (F : List Pr) : (F.flatMap evKeys).length ≤ F.length * 66 := by
  induction F with
  | nil => simp
  | cons x F ih =>
    rw [List.flatMap_cons, List.length_append, List.length_cons]
    have := evKeys_len x
    omega
set_option maxRecDepth 100000 in
set_option maxHeartbeats 2000000 in
theorem event_of (p : Option Addr) (n cp : Nat) (w : World) (F : List Pr) (hF : F.length * 3696 ≤ 140737488355328) (hf : Calls Tryz.prog 30 #[.slice p n cp] w fun e w' => (∃ q cap, e = .returned (.slice q F.length cap) ∧ OwnK encR 42 4 w.heap.size w' q cap F) ∧ Below w.heap.size w w') :
    Calls Tryz.prog 10 #[.slice p n cp] w fun e w' => (∃ q c, e = .returned (.slice q (F.flatMap evKeys).length c) ∧ OwnK encK 46 5 w.heap.size w' q c (F.flatMap evKeys)) ∧ Below w.heap.size w w' := by
  have f9 : (F.length : Int) ≤ 38078324771 := by omega
  obtain ⟨R, hR⟩ : ∃ R, F.flatMap evKeys = R := ⟨_, rfl⟩
  rw [hR]
  have HR := hide hR
  clear hR
  go_enter Tryz.func10, Tryz.ntmps10
  go_wp2_with (go_at_call 30; refine hf.mono ?_; rintro e w1 ⟨⟨q1, c1, rfl, o1⟩, b1⟩; have S1 := hide o1.ls; have B1 := hide b1; have s1 := b1.size; clear o1 b1)
  clear hf
  go_loopw [3, 9] (fun kv iv wr => ∃ (k m : Nat) (q : Option Addr) (c : Nat), k ≤ F.length ∧ Hid (m = ((F.take k).flatMap evKeys).length) ∧ kv = .slice q m c ∧ iv = .int .i64 k ∧ Hid (OwnK encK 46 5 w1.heap.size wr q c ((F.take k).flatMap evKeys)) ∧ Hid (Below w1.heap.size w1 wr)) (fun _ iv _ => F.length - (intOf iv).toNat)
  case atStart => exact ⟨0, 0, none, 0, Nat.zero_le _, hide (by simp), rfl, rfl, hide (by simpa using OwnK.nil _ _), hide (Below.refl _ _)⟩
  case round =>
    obtain ⟨k, m, q, c, hk, HM, rfl, rfl, HO, HB⟩ := hrel
    have sB := (unhide HB).size
    by_cases hlt : k < F.length
    · obtain ⟨x, hx, _⟩ := get_at hlt
      obtain ⟨bs, os, hqs, hbs, r0, r1, r2, r3⟩ := pairAt (unhide S1) hx
      subst hqs
      have p0 := ((unhide HB).cell (p := ⟨bs, os + k * 4, none⟩) hbs).trans r0
      have p1 := ((unhide HB).cell (p := ⟨bs, os + k * 4 + 1, none⟩) hbs).trans r1
      have p2 := ((unhide HB).cell (p := ⟨bs, os + k * 4 + 2, none⟩) hbs).trans r2
      have p3 := ((unhide HB).cell (p := ⟨bs, os + k * 4 + 3, none⟩) hbs).trans r3
      have HT := hide (show (F.take (k + 1)).flatMap evKeys = (F.take k).flatMap evKeys ++ evKeys x by rw [take_snoc_of hx, List.flatMap_append]; simp)
      have HM6 := hide (show m ≤ k * 66 by have h1 := ev_len (F.take k); rw [← unhide HM, List.length_take] at h1; have : min k F.length = k := (by omega); rw [this] at h1; exact h1)
      obtain ⟨K, hK⟩ : ∃ K, (F.take k).flatMap evKeys = K := ⟨_, rfl⟩
      rw [hK] at HM HO HT
      have k0 : (0 : Int) ≤ (k : Int) := by omega
      have k1 : (k : Int) < (F.length : Int) := by omega
      have Y8 := hide (World.alloc_heap_new wr (.cells #[.string x.name, .int .i64 x.kind, .int .i64 x.num, .string x.word] 42))
      obtain ⟨y0, y1, y2, y3⟩ := cells_of_pair (x := x) (unhide Y8)
      have aY := hide ((Below.refl wr.heap.size wr).alloc (Nat.le_refl _) (.cells #[.string x.name, .int .i64 x.kind, .int .i64 x.num, .string x.word] 42))
      have hck := fun W => check_any x.kind x.num x.word W
      clear hx r0 r1 r2 r3 hK
      rcases chk_is x.kind x.num x.word with ⟨h1, h2⟩ | ⟨h1, h2⟩
      · by_cases hk1 : x.kind = 1
        · have hpn : x.num + 2147483648 = ((x.num + 2147483648).toNat : Int) := by omega
          have hpl : (x.num + 2147483648).toNat < 4294967296 := by omega
          have hev : evKeys x = numKeys x.name x.num (x.num + 2147483648).toNat := by unfold evKeys; rw [if_pos h1, if_pos hk1]
          have hevl : (evKeys x).length = 34 := by rw [hev]; simp [numKeys, pathL_len]
          obtain ⟨p, hp⟩ : ∃ p, (x.num + 2147483648).toNat = p := ⟨_, rfl⟩
          rw [hp] at hpn hpl hev
          have HE := hide hev
          have HEL := hide hevl
          have kb : (x.kind == 1) = true := by simpa using hk1
          have hA := fun (W : World) (hW : Below wr.heap.size wr W) => appNum w1.heap.size q c K x.name x.num p hpn hpl W ((unhide HO).below hW) (Nat.le_trans sB hW.size) (by have := unhide HM; have := unhide HM6; omega)
          rw [h1] at hck
          rw [← unhide HM] at hA
          clear hev hevl hp h1 h2 hk1
          go_wp2_with (first
            | (go_at_call 31; refine (hck _).mono ?_; rintro e w2 ⟨rfl, b2⟩; have B2 := hide (below_sub (unhide aY) b2); have s2 := (unhide B2).size; (obtain ⟨z0, z1, z2, z3⟩ := cells_of_pair (x := x) ((b2.block wr.heap.size (by simp)).trans (unhide Y8))); clear b2)
            | (go_at_call 32; refine (hA _ (unhide B2)).mono ?_; rintro e w3 ⟨⟨q3, c3, rfl, o3⟩, b3⟩; have O3 := hide o3; have B3 := hide ((unhide HB).trans (((unhide B2).mono sB).trans b3)); clear o3 b3))
          go_roundw
          case rel => exact ⟨k + 1, m + 34, q3, c3, by omega, hide (by rw [unhide HT, List.length_append, unhide HEL, ← unhide HM]), rfl, by go_num, hide (by rw [unhide HT, unhide HE]; exact unhide O3), B3⟩
          case measure => simp [intOf]; omega

        · have hsz : x.word.size ≤ 64 := by omega
          have hev : evKeys x = wordKeys x.name x.word := by unfold evKeys; rw [if_pos h1, if_neg hk1]
          have hevl : (evKeys x).length = 1 + (x.word.size + 1) := by rw [hev]; simp [wordKeys]; omega
          have HE := hide hev
          have HEL := hide hevl
          have kb : (x.kind == 1) = false := by simpa using hk1
          have hA := fun (W : World) (hW : Below wr.heap.size wr W) => appWord w1.heap.size q c K x.name x.word hsz W ((unhide HO).below hW) (Nat.le_trans sB hW.size) (by have := unhide HM; have := unhide HM6; omega)
          rw [h1] at hck
          rw [← unhide HM] at hA
          obtain ⟨m3, hm3⟩ : ∃ m3, m + 1 + (x.word.size + 1) = m3 := ⟨_, rfl⟩
          rw [hm3] at hA
          have HM3 := hide hm3
          clear hev hevl h1 hm3 h2 hk1
          go_wp2_with (first
            | (go_at_call 31; refine (hck _).mono ?_; rintro e w2 ⟨rfl, b2⟩; have B2 := hide (below_sub (unhide aY) b2); have s2 := (unhide B2).size; (obtain ⟨z0, z1, z2, z3⟩ := cells_of_pair (x := x) ((b2.block wr.heap.size (by simp)).trans (unhide Y8))); clear b2)
            | (go_at_call 33; refine (hA _ (unhide B2)).mono ?_; rintro e w3 ⟨⟨q3, c3, rfl, o3⟩, b3⟩; have O3 := hide o3; have B3 := hide ((unhide HB).trans (((unhide B2).mono sB).trans b3)); clear o3 b3))
          go_roundw
          case rel => exact ⟨k + 1, m3, q3, c3, by omega, hide (by rw [unhide HT, List.length_append, unhide HEL, ← unhide HM, ← unhide HM3]; omega), rfl, by go_num, hide (by rw [unhide HT, unhide HE]; exact unhide O3), B3⟩
          case measure => simp [intOf]; omega

      · rw [h1] at hck
        have hev : evKeys x = [] := by unfold evKeys; rw [if_neg (by omega)]
        have HE := hide hev
        clear hev h1 h2
        go_wp2_with (go_at_call 31; refine (hck _).mono ?_; rintro e w2 ⟨rfl, b2⟩; have B2 := hide (below_sub (unhide aY) b2); have s2 := (unhide B2).size; (obtain ⟨z0, z1, z2, z3⟩ := cells_of_pair (x := x) ((b2.block wr.heap.size (by simp)).trans (unhide Y8))); clear b2)
        go_roundw
        case rel => exact ⟨k + 1, m, q, c, by omega, hide (by rw [unhide HT, unhide HE, List.append_nil]; exact unhide HM), rfl, by go_num, hide (by rw [unhide HT, unhide HE, List.append_nil]; exact (unhide HO).below (unhide B2)), hide (below_sub (unhide HB) (unhide B2))⟩
        case measure => simp [intOf]; omega

    · obtain rfl : k = F.length := by omega
      have k1 : ¬ (F.length : Int) < (F.length : Int) := by omega
      go_wp2
      go_ret
      have ho := unhide HO
      have hm := unhide HM
      rw [List.take_length, unhide HR] at ho hm
      subst hm
      exact ⟨⟨q, c, rfl, ho.mono s1⟩, below_sub (unhide B1) (unhide HB)⟩
end Go.Proofs.YtjbafggnbfknfaaGreatDoor
