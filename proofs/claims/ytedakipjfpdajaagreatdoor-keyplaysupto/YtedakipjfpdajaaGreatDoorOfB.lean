/- key.Of of ranges and prefixes. -/
import Derived.Test.YtedakipjfpdajaaGreatDoorOfA
import Derived.Test.YtedakipjfpdajaaGreatDoorSpanA
import Derived.Deep.Cut
namespace Go.Proofs.YtedakipjfpdajaaGreatDoor
open Go.RowKit Go.Sort Go.Shelf

theorem spAt {w : World} {q : Option Addr} {c : Nat} {l : List (Nat × Nat)} {j : Nat} {x : Nat × Nat} (h : SlOf encN 2 w q c l) (hj : l[j]? = some x) : ∃ b off, q = some ⟨b, off, none⟩ ∧ b < w.heap.size ∧ w.cell? ⟨b, off + j * 2, none⟩ = some (.int .i64 x.1) ∧ w.cell? ⟨b, off + j * 2 + 1, none⟩ = some (.int .i64 x.2) := by
  obtain ⟨b, off, hq, hb, hc⟩ := h.2.2.2.at hj
  exact ⟨b, off, hq, hb, cells2N hc⟩
theorem wk_str {l : List Ky} (h : Wk l) (hn : l.Nodup) : Str l :=
  (List.Pairwise.and h hn).imp fun ⟨h1, h2⟩ => Classical.byContradiction fun hc => h2 (lt_total hc h1)
theorem cover_ge (n : Nat) : ∀ p r, r ≤ n → p + r ≤ 2 ^ 32 → ∀ x ∈ cover p r, p ≤ x.2 * 2 ^ x.1 := by
  induction n with
  | zero =>
    intro p r hr _ x hx
    obtain rfl : r = 0 := by omega
    rw [cover_zero] at hx; simp at hx
  | succ n ih =>
    intro p r hr hb x hx
    by_cases h0 : 0 < r
    · rw [cover_step p r h0] at hx
      have e64 : (2 : Nat) ^ 64 = 18446744073709551616 := by decide
      have e32 : (2 : Nat) ^ 32 = 4294967296 := by decide
      have hle := lv_le p r h0 (by omega)
      have hpos := Nat.two_pow_pos (lv p r)
      rcases List.mem_cons.1 hx with rfl | hx
      · exact Nat.le_of_eq (Nat.div_mul_cancel (lv_dvd p r)).symm
      · exact Nat.le_trans (Nat.le_add_right p _) (ih _ _ (by omega) (by omega) x hx)
    · obtain rfl : r = 0 := by omega
      rw [cover_zero] at hx; simp at hx
theorem cover_nodup (n : Nat) : ∀ p r, r ≤ n → p + r ≤ 2 ^ 32 → (cover p r).Nodup := by
  induction n with
  | zero =>
    intro p r hr _
    obtain rfl : r = 0 := by omega
    rw [cover_zero]; exact List.nodup_nil
  | succ n ih =>
    intro p r hr hb
    by_cases h0 : 0 < r
    · rw [cover_step p r h0]
      have e64 : (2 : Nat) ^ 64 = 18446744073709551616 := by decide
      have e32 : (2 : Nat) ^ 32 = 4294967296 := by decide
      have hle := lv_le p r h0 (by omega)
      have hpos := Nat.two_pow_pos (lv p r)
      refine List.nodup_cons.2 ⟨fun hm => ?_, ih _ _ (by omega) (by omega)⟩
      have h1 := cover_ge (r - 2 ^ lv p r) _ _ (Nat.le_refl _) (by omega) _ hm
      have h2 : p / 2 ^ lv p r * 2 ^ lv p r = p := Nat.div_mul_cancel (lv_dvd p r)
      simp only at h1
      omega
    · obtain rfl : r = 0 := by omega
      rw [cover_zero]; exact List.nodup_nil
theorem coverZ_facts (lo hi : Int) : (coverZ lo hi).Nodup ∧ (coverZ lo hi).length ≤ 62 := by
  unfold coverZ
  have hb : (max lo (-2147483648) + 2147483648).toNat + (min hi 2147483647 - max lo (-2147483648) + 1).toNat ≤ 4294967296 ∨ (min hi 2147483647 - max lo (-2147483648) + 1).toNat = 0 := by omega
  rcases hb with hb | hb
  · exact ⟨cover_nodup _ _ _ (Nat.le_refl _) hb, cover_len _ _ hb⟩
  · rw [hb, cover_zero]; exact ⟨List.nodup_nil, by simp⟩
theorem kSpan_inj (attr : ByteArray) {a b : Nat × Nat} (h : kSpan attr a = kSpan attr b) : a = b := by
  unfold kSpan at h
  injection h with _ _ h3 h4
  exact Prod.ext (by omega) (by omega)
set_option maxRecDepth 100000 in
set_option maxHeartbeats 1000000 in
theorem of_span (kind : Int) (at0 : ByteArray) (qi : Option Addr) (ni ci : Nat) (qw : Option Addr) (nw cw : Nat) (lo hi : Int) (attr : ByteArray) (w : World) (lo1 hi1 : Int) (hG : G w) (hN : ∀ W, Below w.heap.size w W → Calls Tryz.prog 23 #[.agg #[.int .i64 kind, .string at0, .slice qi ni ci, .slice qw nw cw, .int .i64 lo, .int .i64 hi]] W fun e w' => e = .returned (.tuple #[.agg #[.int .i64 3, .string attr, .slice none 0 0, .slice none 0 0, .int .i64 lo1, .int .i64 hi1], .bool true]) ∧ Below W.heap.size W w') :
    Calls Tryz.prog 9 #[.agg #[.int .i64 kind, .string at0, .slice qi ni ci, .slice qw nw cw, .int .i64 lo, .int .i64 hi]] w fun e w' => (∃ q c, e = .returned (.slice q (ris ((coverZ lo1 hi1).map (kSpan attr))).length c) ∧ OwnK encK 46 5 w.heap.size w' q c (ris ((coverZ lo1 hi1).map (kSpan attr)))) ∧ Below w.heap.size w w' := by
  obtain ⟨hnd, hlen⟩ := coverZ_facts lo1 hi1
  have hCv := fun (W : World) (hW : Below w.heap.size w W) => cover_any lo1 hi1 W (hG.below' hW)
  obtain ⟨C, hC⟩ : ∃ C, coverZ lo1 hi1 = C := ⟨_, rfl⟩
  rw [hC] at hnd hlen ⊢
  simp only [hC] at hCv
  have HND := hide hnd
  have lC : (C.length : Int) ≤ 62 := by omega
  obtain ⟨X, HX⟩ : ∃ X, w.alloc (.cells #[.int .i64 kind, .string at0, .slice qi ni ci, .slice qw nw cw, .int .i64 lo, .int .i64 hi] 25) = X := ⟨_, rfl⟩
  have bX : Below w.heap.size w X := by rw [← HX]; exact (Below.refl _ _).alloc (Nat.le_refl _) _
  have x8 : X.heap[w.heap.size]? = some (.cells #[.int .i64 kind, .string at0, .slice qi ni ci, .slice qw nw cw, .int .i64 lo, .int .i64 hi] 25 (0, 0)) := by rw [← HX]; exact World.alloc_heap_new _ _
  obtain ⟨x0, x1, x2, x3, x4, x5⟩ := of6 x8
  have BX := hide bX
  have hNX := hN X bX
  clear bX x8
  clear hN hC hnd hG
  go_enter Tryz.func9, Tryz.ntmps9
  go_upto_region 19 with (go_at_call 23; refine hNX.mono ?_; rintro e w1 ⟨rfl, b1⟩; have B1 := hide b1; clear b1)
  obtain ⟨Y, HY⟩ : ∃ Y, w1.alloc (.cells #[.int .i64 3, .string attr, .slice none 0 0, .slice none 0 0, .int .i64 lo1, .int .i64 hi1] 25) = Y := ⟨_, rfl⟩
  rw [HY]
  have y8 : Y.heap[w1.heap.size]? = some (.cells #[.int .i64 3, .string attr, .slice none 0 0, .slice none 0 0, .int .i64 lo1, .int .i64 hi1] 25 (0, 0)) := by rw [← HY]; exact World.alloc_heap_new _ _
  have bY : Below w1.heap.size w1 Y := by rw [← HY]; exact (Below.refl _ _).alloc (Nat.le_refl _) _
  have BYw := hide (below_sub (unhide BX) (below_sub (unhide B1) bY))
  have Y8 := hide y8
  have lY : w1.heap.size < Y.heap.size := (Array.getElem?_eq_some_iff.1 y8).1
  obtain ⟨n0, n1, n2, n3, n4, n5⟩ := of6 y8
  clear y8 bY HY
  go_wp2_with (go_at_call 26; refine (hCv _ (unhide BYw)).mono ?_; rintro e w2 ⟨q2, c2, rfl, o2, b2⟩; have SC := hide o2.ls; have B2w := hide (below_sub (unhide BYw) b2); have q8 := (b2.block _ lY).trans (unhide Y8); have Z8 := hide q8; have lZ : w1.heap.size < w2.heap.size := (Array.getElem?_eq_some_iff.1 q8).1; clear o2 b2 q8)
  clear n0 n1 n2 n3 n4 n5
  go_loopw [5, 63] (fun kv iv wr => ∃ (k : Nat) (q : Option Addr) (c : Nat), k ≤ C.length ∧ kv = .slice q k c ∧ iv = .int .i64 k ∧ Hid (OwnK encK 46 5 w2.heap.size wr q c ((C.take k).map (kSpan attr))) ∧ Hid (Below w2.heap.size w2 wr)) (fun _ iv _ => C.length - (intOf iv).toNat)
  case atStart => exact ⟨0, none, 0, Nat.zero_le _, rfl, rfl, hide (OwnK.nil _ _), hide (Below.refl _ _)⟩
  case round =>
    obtain ⟨k, q, c, hk, rfl, rfl, HO, HB⟩ := hrel
    have q8 := ((unhide HB).block _ lZ).trans (unhide Z8)
    have lW : w1.heap.size < wr.heap.size := (Array.getElem?_eq_some_iff.1 q8).1
    obtain ⟨n0, n1, n2, n3, n4, n5⟩ := of6 q8
    clear q8
    by_cases hlt : k < C.length
    · obtain ⟨x, hx, _⟩ := get_at hlt
      obtain ⟨b, off, hq, hb, hc0, hc1⟩ := spAt (unhide SC) hx
      subst hq
      have g0 := ((unhide HB).cell (p := ⟨b, off + k * 2, none⟩) hb).trans hc0
      have g1 := ((unhide HB).cell (p := ⟨b, off + k * 2 + 1, none⟩) hb).trans hc1
      have k0 : (0 : Int) ≤ (k : Int) := by omega
      have k1 : (k : Int) < (C.length : Int) := by omega
      have HT := hide (show (C.take (k + 1)).map (kSpan attr) = (C.take k).map (kSpan attr) ++ [kSpan attr x] by rw [take_snoc_of hx, List.map_append]; rfl)
      have hlk : ((C.take k).map (kSpan attr)).length = k := by rw [List.length_map, List.length_take]; omega
      have HLK := hide hlk
      have sB := (unhide HB).size
      clear hx hc0 hc1 hlk
      go_wp2_with (first
        | (go_at_call 27; refine (ofSp attr _ _ _).mono ?_; rintro e w3 ⟨rfl, b3⟩; have B3 := hide (below_sub ((Below.refl _ _).alloc (Nat.le_refl _) _) b3); have s3 := (unhide B3).size; clear b3)
        | (at_builtin; refine wpList_app rowP rfl _ _ rfl w2.heap.size q c ((C.take k).map (kSpan attr)) (some ⟨w3.heap.size, 0, none⟩) 1 [kSpan attr x] k 1 (k + 1) (unhide HLK) rfl rfl rfl rfl (((unhide HO).below (unhide B3)).below ((Below.refl _ _).alloc (Nat.le_refl _) _)) (srcKyA _ _) (by unfold maxLen; omega) (by omega) (by simp; omega) ?_; intro q5 c5 w5 ho5 hb5 _ _; have HO5 := hide ho5; have HB5 := hide ((unhide HB).trans (((unhide B3).mono sB).trans (((Below.refl w2.heap.size w3).alloc (by omega) _).trans hb5))); clear ho5 hb5))
      go_roundw
      case rel => exact ⟨k + 1, q5, c5, by omega, rfl, by go_num, hide (by rw [unhide HT]; exact unhide HO5), HB5⟩
      case measure => simp [intOf]; omega
    · obtain rfl : k = C.length := by omega
      have k1 : ¬ (C.length : Int) < (C.length : Int) := by omega
      have ho := unhide HO
      rw [List.take_length] at ho
      have hS := sortP_any w2.heap.size q c (C.map (kSpan attr)) wr (by rw [List.length_map]; omega) ho
      rw [List.length_map] at hS
      clear ho
      go_wp2_with (go_at_call 28; refine hS.mono ?_; rintro e w6 ⟨rfl, l', hp, hw, ho6, b6⟩; have HP := hide hp; have HW := hide hw; have O6 := hide ho6; have B6 := hide b6; clear hp hw ho6 b6)
      go_ret
      have hnk : (C.map (kSpan attr)).Nodup := List.pairwise_map.2 ((unhide HND).imp fun hab h => hab (kSpan_inj attr h))
      have hl : ris (C.map (kSpan attr)) = l' := ris_of (wk_str (unhide HW) ((unhide HP).nodup_iff.2 hnk)) fun x => (unhide HP).mem_iff
      have hll : l'.length = C.length := by rw [(unhide HP).length_eq, List.length_map]
      rw [hl]
      exact ⟨⟨q, c, by rw [hll]; rfl, (unhide O6).mono (unhide B2w).size⟩, (unhide B2w).trans (((unhide HB).trans (unhide B6)).mono (unhide B2w).size)⟩
set_option maxRecDepth 100000 in
set_option maxHeartbeats 1000000 in
theorem of_pre (kind : Int) (at0 : ByteArray) (qi : Option Addr) (ni ci : Nat) (qw : Option Addr) (nw cw : Nat) (lo hi : Int) (attr : ByteArray) (w : World) (s : ByteArray) (hN : ∀ W, Below w.heap.size w W → Calls Tryz.prog 23 #[.agg #[.int .i64 kind, .string at0, .slice qi ni ci, .slice qw nw cw, .int .i64 lo, .int .i64 hi]] W fun e w' => (∃ q c, e = .returned (.tuple #[.agg #[.int .i64 4, .string attr, .slice none 0 0, .slice q 1 c, .int .i64 0, .int .i64 0], .bool true]) ∧ SlOf encS 1 w' q c [s]) ∧ Below W.heap.size W w') :
    Calls Tryz.prog 9 #[.agg #[.int .i64 kind, .string at0, .slice qi ni ci, .slice qw nw cw, .int .i64 lo, .int .i64 hi]] w fun e w' => (∃ q c, e = .returned (.slice q [kPre attr s].length c) ∧ OwnK encK 46 5 w.heap.size w' q c [kPre attr s]) ∧ Below w.heap.size w w' := by
  obtain ⟨X, HX⟩ : ∃ X, w.alloc (.cells #[.int .i64 kind, .string at0, .slice qi ni ci, .slice qw nw cw, .int .i64 lo, .int .i64 hi] 25) = X := ⟨_, rfl⟩
  have bX : Below w.heap.size w X := by rw [← HX]; exact (Below.refl _ _).alloc (Nat.le_refl _) _
  have x8 : X.heap[w.heap.size]? = some (.cells #[.int .i64 kind, .string at0, .slice qi ni ci, .slice qw nw cw, .int .i64 lo, .int .i64 hi] 25 (0, 0)) := by rw [← HX]; exact World.alloc_heap_new _ _
  obtain ⟨x0, x1, x2, x3, x4, x5⟩ := of6 x8
  have BX := hide bX
  have hNX := hN X bX
  clear bX x8
  clear hN
  go_enter Tryz.func9, Tryz.ntmps9
  go_upto_region 26 with (go_at_call 23; refine hNX.mono ?_; rintro e w1 ⟨⟨q2, c2, rfl, s2⟩, b1⟩; have S2 := hide s2; have B1 := hide b1; clear b1 s2)
  obtain ⟨Y, HY⟩ : ∃ Y, w1.alloc (.cells #[.int .i64 4, .string attr, .slice none 0 0, .slice q2 1 c2, .int .i64 0, .int .i64 0] 25) = Y := ⟨_, rfl⟩
  rw [HY]
  have y8 : Y.heap[w1.heap.size]? = some (.cells #[.int .i64 4, .string attr, .slice none 0 0, .slice q2 1 c2, .int .i64 0, .int .i64 0] 25 (0, 0)) := by rw [← HY]; exact World.alloc_heap_new _ _
  have bY : Below w1.heap.size w1 Y := by rw [← HY]; exact (Below.refl _ _).alloc (Nat.le_refl _) _
  have BYw := hide (below_sub (unhide BX) (below_sub (unhide B1) bY))
  have Y8 := hide y8
  have lY : w1.heap.size < Y.heap.size := (Array.getElem?_eq_some_iff.1 y8).1
  obtain ⟨b, off, hq, hb, hc⟩ := wordsAt ((unhide S2).below bY) (j := 0) (x := s) rfl
  subst hq
  rw [Nat.add_zero] at hc
  obtain ⟨n0, n1, n2, n3, n4, n5⟩ := of6 y8
  clear y8 bY HY
  go_region_held3 (fun W' => W'.cell? ⟨w1.heap.size, 1, none⟩ = some (.string attr) ∧ W'.cell? ⟨w1.heap.size, 3, none⟩ = some (.slice (some ⟨b, off, none⟩) 1 c2) ∧ W'.cell? ⟨b, off, none⟩ = some (.string s)) (first | exact ⟨(((unhide B3).cell (p := ⟨w1.heap.size, 1, none⟩) lY).trans n1), (((unhide B3).cell (p := ⟨w1.heap.size, 3, none⟩) lY).trans n3), (((unhide B3).cell (p := ⟨b, off, none⟩) hb).trans hc)⟩ | exact ⟨((((unhide B3).alloc s3 _).cell (p := ⟨w1.heap.size, 1, none⟩) lY).trans n1), ((((unhide B3).alloc s3 _).cell (p := ⟨w1.heap.size, 3, none⟩) lY).trans n3), ((((unhide B3).alloc s3 _).cell (p := ⟨b, off, none⟩) hb).trans hc)⟩ | exact ⟨((unhide HB5).cell (p := ⟨w1.heap.size, 1, none⟩) lY).trans n1, ((unhide HB5).cell (p := ⟨w1.heap.size, 3, none⟩) lY).trans n3, ((unhide HB5).cell (p := ⟨b, off, none⟩) hb).trans hc⟩ | go_keep) (first
    | (go_at_call 29; refine (ofP attr s _).mono ?_; rintro e w3 ⟨rfl, b3⟩; have b3' : Below Y.heap.size Y w3 := (by first | exact b3 | exact below_undrew b3); have B3 := hide b3'; have s3 := b3'.size; clear b3 b3')
    | (refine step_app rowP (by rfl) _ _ (by rfl) Y.heap.size none 0 [] (some ⟨w3.heap.size, 0, none⟩) 1 [kPre attr s] 0 1 1 rfl rfl rfl (by rfl) (by rfl) (OwnK.nil _ _) (srcKyA _ _) (by unfold maxLen; omega) (by omega) (by simp; omega) ?_; intro q5 c5 w5 ho5 hb5 _ _; have HO5 := hide ho5; have HB5 := hide (((unhide B3).alloc s3 _).trans hb5); clear ho5 hb5))
  all_goals
    go_wp2
    go_ret
    exact ⟨⟨q5, c5, rfl, (unhide HO5).mono (unhide BYw).size⟩, below_sub (unhide BYw) (unhide HB5)⟩
end Go.Proofs.YtedakipjfpdajaaGreatDoor
