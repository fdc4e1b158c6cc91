/- key.Of of sets. -/
import Derived.Test.YtedakipjfpdajaaGreatDoorNorm2
import Derived.Test.YtedakipjfpdajaaGreatDoorZaf
namespace Go.Proofs.YtedakipjfpdajaaGreatDoor
open Go.RowKit Go.Sort Go.Shelf

def kInt (attr : ByteArray) (x : Int) : Ky := ⟨attr, 1, 0, x, ⟨#[]⟩⟩
def kWord (attr s : ByteArray) : Ky := ⟨attr, 2, 0, 0, s⟩
def kSpan (attr : ByteArray) (x : Nat × Nat) : Ky := ⟨attr, 3, x.1, x.2, ⟨#[]⟩⟩
def kPre (attr s : ByteArray) : Ky := ⟨attr, 4, 0, 0, s⟩
theorem srcKyA (w : World) (x : Ky) : SrcK encK 5 (w.alloc (.cells #[.string x.attr, .int .i64 x.kind, .int .i64 x.level, .int .i64 x.num, .string x.word] 46)) (some ⟨w.heap.size, 0, none⟩) 1 [x] := by
  refine ⟨(fun h => by cases h), fun ad e j u hj => ?_⟩
  cases e
  rw [flat_oneP] at hj
  exact news_one w x j u hj
theorem ofI (attr : ByteArray) (x : Int) (w : World) : Calls Tryz.prog 24 #[.string attr, .int .i64 x] w fun e w' => e = .returned (.agg #[.string attr, .int .i64 1, .int .i64 0, .int .i64 x, .string ⟨#[]⟩]) ∧ Below w.heap.size w w' := by
  go_enter Tryz.func24, Tryz.ntmps24
  go_wp2
  exact bodyPost_ret (v := .agg #[.string attr, .int .i64 1, .int .i64 0, .int .i64 x, .string ⟨#[]⟩]) (by simp [results, Tryz.results24, go_sem]) rfl ⟨rfl, (Below.refl _ _).alloc (Nat.le_refl _) _⟩
theorem ofW (attr s : ByteArray) (w : World) : Calls Tryz.prog 25 #[.string attr, .string s] w fun e w' => e = .returned (.agg #[.string attr, .int .i64 2, .int .i64 0, .int .i64 0, .string s]) ∧ Below w.heap.size w w' := by
  go_enter Tryz.func25, Tryz.ntmps25
  go_wp2
  exact bodyPost_ret (v := .agg #[.string attr, .int .i64 2, .int .i64 0, .int .i64 0, .string s]) (by simp [results, Tryz.results25, go_sem]) rfl ⟨rfl, (Below.refl _ _).alloc (Nat.le_refl _) _⟩
theorem ofSp (attr : ByteArray) (l i : Int) (w : World) : Calls Tryz.prog 27 #[.string attr, .agg #[.int .i64 l, .int .i64 i]] w fun e w' => e = .returned (.agg #[.string attr, .int .i64 3, .int .i64 l, .int .i64 i, .string ⟨#[]⟩]) ∧ Below w.heap.size w w' := by
  go_enter Tryz.func27, Tryz.ntmps27
  go_wp2
  exact bodyPost_ret (v := .agg #[.string attr, .int .i64 3, .int .i64 l, .int .i64 i, .string ⟨#[]⟩]) (by simp [results, Tryz.results27, go_sem]) rfl ⟨rfl, ((Below.refl _ _).alloc (Nat.le_refl _) _).alloc (by simp) _⟩
theorem ofP (attr s : ByteArray) (w : World) : Calls Tryz.prog 29 #[.string attr, .string s] w fun e w' => e = .returned (.agg #[.string attr, .int .i64 4, .int .i64 0, .int .i64 0, .string s]) ∧ Below w.heap.size w w' := by
  go_enter Tryz.func29, Tryz.ntmps29
  go_wp2
  exact bodyPost_ret (v := .agg #[.string attr, .int .i64 4, .int .i64 0, .int .i64 0, .string s]) (by simp [results, Tryz.results29, go_sem]) rfl ⟨rfl, (Below.refl _ _).alloc (Nat.le_refl _) _⟩
theorem of_no (kind : Int) (at0 : ByteArray) (qi : Option Addr) (ni ci : Nat) (qw : Option Addr) (nw cw : Nat) (lo hi : Int) (w : World) (hN : ∀ W, Below w.heap.size w W → Calls Tryz.prog 23 #[.agg #[.int .i64 kind, .string at0, .slice qi ni ci, .slice qw nw cw, .int .i64 lo, .int .i64 hi]] W fun e w' => e = .returned (.tuple #[.agg #[.int .i64 0, .string ⟨#[]⟩, .slice none 0 0, .slice none 0 0, .int .i64 0, .int .i64 0], .bool false]) ∧ Below W.heap.size W w') :
    Calls Tryz.prog 9 #[.agg #[.int .i64 kind, .string at0, .slice qi ni ci, .slice qw nw cw, .int .i64 lo, .int .i64 hi]] w fun e w' => e = .returned (.slice none 0 0) ∧ Below w.heap.size w w' := by
  obtain ⟨X, HX⟩ : ∃ X, w.alloc (.cells #[.int .i64 kind, .string at0, .slice qi ni ci, .slice qw nw cw, .int .i64 lo, .int .i64 hi] 25) = X := ⟨_, rfl⟩
  have bX : Below w.heap.size w X := by rw [← HX]; exact (Below.refl _ _).alloc (Nat.le_refl _) _
  have x8 : X.heap[w.heap.size]? = some (.cells #[.int .i64 kind, .string at0, .slice qi ni ci, .slice qw nw cw, .int .i64 lo, .int .i64 hi] 25 (0, 0)) := by rw [← HX]; exact World.alloc_heap_new _ _
  obtain ⟨x0, x1, x2, x3, x4, x5⟩ := of6 x8
  have BX := hide bX
  have hNX := hN X bX
  clear bX x8 hN
  go_enter Tryz.func9, Tryz.ntmps9
  go_wp2_with (go_at_call 23; refine hNX.mono ?_; rintro e w1 ⟨rfl, b1⟩; have B1 := hide b1; have s1 := b1.size; clear b1)
  go_ret
  exact ⟨rfl, (below_sub (unhide BX) (unhide B1)).alloc (Nat.le_trans (unhide BX).size s1) _⟩
set_option maxRecDepth 100000 in
set_option maxHeartbeats 1000000 in
theorem of_ints (kind : Int) (at0 : ByteArray) (qi : Option Addr) (ni ci : Nat) (qw : Option Addr) (nw cw : Nat) (lo hi : Int) (attr : ByteArray) (w : World) (L : List Int) (hL : L.length ≤ 64) (hN : ∀ W, Below w.heap.size w W → Calls Tryz.prog 23 #[.agg #[.int .i64 kind, .string at0, .slice qi ni ci, .slice qw nw cw, .int .i64 lo, .int .i64 hi]] W fun e w' => (∃ q c, e = .returned (.tuple #[.agg #[.int .i64 1, .string attr, .slice q L.length c, .slice none 0 0, .int .i64 0, .int .i64 0], .bool true]) ∧ SlOf encI 1 w' q c L) ∧ Below W.heap.size W w') :
    Calls Tryz.prog 9 #[.agg #[.int .i64 kind, .string at0, .slice qi ni ci, .slice qw nw cw, .int .i64 lo, .int .i64 hi]] w fun e w' => (∃ q c, e = .returned (.slice q (L.map (kInt attr)).length c) ∧ OwnK encK 46 5 w.heap.size w' q c (L.map (kInt attr))) ∧ Below w.heap.size w w' := by
  have lL : (L.length : Int) ≤ 64 := by omega
  obtain ⟨X, HX⟩ : ∃ X, w.alloc (.cells #[.int .i64 kind, .string at0, .slice qi ni ci, .slice qw nw cw, .int .i64 lo, .int .i64 hi] 25) = X := ⟨_, rfl⟩
  have bX : Below w.heap.size w X := by rw [← HX]; exact (Below.refl _ _).alloc (Nat.le_refl _) _
  have x8 : X.heap[w.heap.size]? = some (.cells #[.int .i64 kind, .string at0, .slice qi ni ci, .slice qw nw cw, .int .i64 lo, .int .i64 hi] 25 (0, 0)) := by rw [← HX]; exact World.alloc_heap_new _ _
  obtain ⟨x0, x1, x2, x3, x4, x5⟩ := of6 x8
  have BX := hide bX
  have hNX := hN X bX
  clear bX x8
  clear hN
  go_enter Tryz.func9, Tryz.ntmps9
  go_wp2_with (go_at_call 23; refine hNX.mono ?_; rintro e w1 ⟨⟨q2, c2, rfl, s2⟩, b1⟩; have S2 := hide s2; have B1 := hide b1; clear b1 s2)
  obtain ⟨Y, HY⟩ : ∃ Y, w1.alloc (.cells #[.int .i64 1, .string attr, .slice q2 L.length c2, .slice none 0 0, .int .i64 0, .int .i64 0] 25) = Y := ⟨_, rfl⟩
  rw [HY]
  have y8 : Y.heap[w1.heap.size]? = some (.cells #[.int .i64 1, .string attr, .slice q2 L.length c2, .slice none 0 0, .int .i64 0, .int .i64 0] 25 (0, 0)) := by rw [← HY]; exact World.alloc_heap_new _ _
  have bY : Below w1.heap.size w1 Y := by rw [← HY]; exact (Below.refl _ _).alloc (Nat.le_refl _) _
  have SY := hide ((unhide S2).below bY)
  have BYw := hide (below_sub (unhide BX) (below_sub (unhide B1) bY))
  have Y8 := hide y8
  have lY : w1.heap.size < Y.heap.size := (Array.getElem?_eq_some_iff.1 y8).1
  clear y8 bY HY
  go_loopw [5, 26] (fun kv iv wr => ∃ (k : Nat) (q : Option Addr) (c : Nat), k ≤ L.length ∧ kv = .slice q k c ∧ iv = .int .i64 k ∧ Hid (OwnK encK 46 5 Y.heap.size wr q c ((L.take k).map (kInt attr))) ∧ Hid (Below Y.heap.size Y wr)) (fun _ iv _ => L.length - (intOf iv).toNat)
  case atStart => exact ⟨0, none, 0, Nat.zero_le _, rfl, rfl, hide (OwnK.nil _ _), hide (Below.refl _ _)⟩
  case round =>
    obtain ⟨k, q, c, hk, rfl, rfl, HO, HB⟩ := hrel
    obtain ⟨n0, n1, n2, n3, n4, n5⟩ := of6 (((unhide HB).block _ lY).trans (unhide Y8))
    by_cases hlt : k < L.length
    · obtain ⟨x, hx, _⟩ := get_at hlt
      obtain ⟨b, off, hq, hb, hc⟩ := intsAt (unhide SY) hx
      subst hq
      have g := ((unhide HB).cell (p := ⟨b, off + k, none⟩) hb).trans hc
      have k0 : (0 : Int) ≤ (k : Int) := by omega
      have k1 : (k : Int) < (L.length : Int) := by omega
      have HT := hide (show (L.take (k + 1)).map (kInt attr) = (L.take k).map (kInt attr) ++ [kInt attr x] by rw [take_snoc_of hx, List.map_append]; rfl)
      have hlk : ((L.take k).map (kInt attr)).length = k := by rw [List.length_map, List.length_take]; omega
      have HLK := hide hlk
      have sB := (unhide HB).size
      clear hx hc hlk
      go_wp2_with (first
        | (go_at_call 24; refine (ofI attr x _).mono ?_; rintro e w3 ⟨rfl, b3⟩; have B3 := hide b3; have s3 := b3.size; clear b3)
        | (at_builtin; refine wpList_app rowP rfl _ _ rfl Y.heap.size q c ((L.take k).map (kInt attr)) (some ⟨w3.heap.size, 0, none⟩) 1 [kInt attr x] k 1 (k + 1) (unhide HLK) rfl rfl rfl rfl (((unhide HO).below (unhide B3)).below ((Below.refl _ _).alloc (Nat.le_refl _) _)) (srcKyA _ _) (by unfold maxLen; omega) (by omega) (by simp; omega) ?_; intro q5 c5 w5 ho5 hb5 _ _; have HO5 := hide ho5; have HB5 := hide ((unhide HB).trans (((unhide B3).mono sB).trans (((Below.refl Y.heap.size w3).alloc (by omega) _).trans hb5))); clear ho5 hb5))
      go_roundw
      case rel => exact ⟨k + 1, q5, c5, by omega, rfl, by go_num, hide (by rw [unhide HT]; exact unhide HO5), HB5⟩
      case measure => simp [intOf]; omega
    · obtain rfl : k = L.length := by omega
      have k1 : ¬ (L.length : Int) < (L.length : Int) := by omega
      go_wp2
      go_ret
      have ho := unhide HO
      rw [List.take_length] at ho
      exact ⟨⟨q, c, by first | rfl | (rw [List.length_map]; rfl), ho.mono (unhide BYw).size⟩, below_sub (unhide BYw) (unhide HB)⟩
set_option maxRecDepth 100000 in
set_option maxHeartbeats 1000000 in
theorem of_words (kind : Int) (at0 : ByteArray) (qi : Option Addr) (ni ci : Nat) (qw : Option Addr) (nw cw : Nat) (lo hi : Int) (attr : ByteArray) (w : World) (L : List ByteArray) (hL : L.length ≤ 64) (hN : ∀ W, Below w.heap.size w W → Calls Tryz.prog 23 #[.agg #[.int .i64 kind, .string at0, .slice qi ni ci, .slice qw nw cw, .int .i64 lo, .int .i64 hi]] W fun e w' => (∃ q c, e = .returned (.tuple #[.agg #[.int .i64 2, .string attr, .slice none 0 0, .slice q L.length c, .int .i64 0, .int .i64 0], .bool true]) ∧ SlOf encS 1 w' q c L) ∧ Below W.heap.size W w') :
    Calls Tryz.prog 9 #[.agg #[.int .i64 kind, .string at0, .slice qi ni ci, .slice qw nw cw, .int .i64 lo, .int .i64 hi]] w fun e w' => (∃ q c, e = .returned (.slice q (L.map (kWord attr)).length c) ∧ OwnK encK 46 5 w.heap.size w' q c (L.map (kWord attr))) ∧ Below w.heap.size w w' := by
  have lL : (L.length : Int) ≤ 64 := by omega
  obtain ⟨X, HX⟩ : ∃ X, w.alloc (.cells #[.int .i64 kind, .string at0, .slice qi ni ci, .slice qw nw cw, .int .i64 lo, .int .i64 hi] 25) = X := ⟨_, rfl⟩
  have bX : Below w.heap.size w X := by rw [← HX]; exact (Below.refl _ _).alloc (Nat.le_refl _) _
  have x8 : X.heap[w.heap.size]? = some (.cells #[.int .i64 kind, .string at0, .slice qi ni ci, .slice qw nw cw, .int .i64 lo, .int .i64 hi] 25 (0, 0)) := by rw [← HX]; exact World.alloc_heap_new _ _
  obtain ⟨x0, x1, x2, x3, x4, x5⟩ := of6 x8
  have BX := hide bX
  have hNX := hN X bX
  clear bX x8
  clear hN
  go_enter Tryz.func9, Tryz.ntmps9
  go_wp2_with (go_at_call 23; refine hNX.mono ?_; rintro e w1 ⟨⟨q2, c2, rfl, s2⟩, b1⟩; have S2 := hide s2; have B1 := hide b1; clear b1 s2)
  obtain ⟨Y, HY⟩ : ∃ Y, w1.alloc (.cells #[.int .i64 2, .string attr, .slice none 0 0, .slice q2 L.length c2, .int .i64 0, .int .i64 0] 25) = Y := ⟨_, rfl⟩
  rw [HY]
  have y8 : Y.heap[w1.heap.size]? = some (.cells #[.int .i64 2, .string attr, .slice none 0 0, .slice q2 L.length c2, .int .i64 0, .int .i64 0] 25 (0, 0)) := by rw [← HY]; exact World.alloc_heap_new _ _
  have bY : Below w1.heap.size w1 Y := by rw [← HY]; exact (Below.refl _ _).alloc (Nat.le_refl _) _
  have SY := hide ((unhide S2).below bY)
  have BYw := hide (below_sub (unhide BX) (below_sub (unhide B1) bY))
  have Y8 := hide y8
  have lY : w1.heap.size < Y.heap.size := (Array.getElem?_eq_some_iff.1 y8).1
  clear y8 bY HY
  go_loopw [5, 43] (fun kv iv wr => ∃ (k : Nat) (q : Option Addr) (c : Nat), k ≤ L.length ∧ kv = .slice q k c ∧ iv = .int .i64 k ∧ Hid (OwnK encK 46 5 Y.heap.size wr q c ((L.take k).map (kWord attr))) ∧ Hid (Below Y.heap.size Y wr)) (fun _ iv _ => L.length - (intOf iv).toNat)
  case atStart => exact ⟨0, none, 0, Nat.zero_le _, rfl, rfl, hide (OwnK.nil _ _), hide (Below.refl _ _)⟩
  case round =>
    obtain ⟨k, q, c, hk, rfl, rfl, HO, HB⟩ := hrel
    obtain ⟨n0, n1, n2, n3, n4, n5⟩ := of6 (((unhide HB).block _ lY).trans (unhide Y8))
    by_cases hlt : k < L.length
    · obtain ⟨x, hx, _⟩ := get_at hlt
      obtain ⟨b, off, hq, hb, hc⟩ := wordsAt (unhide SY) hx
      subst hq
      have g := ((unhide HB).cell (p := ⟨b, off + k, none⟩) hb).trans hc
      have k0 : (0 : Int) ≤ (k : Int) := by omega
      have k1 : (k : Int) < (L.length : Int) := by omega
      have HT := hide (show (L.take (k + 1)).map (kWord attr) = (L.take k).map (kWord attr) ++ [kWord attr x] by rw [take_snoc_of hx, List.map_append]; rfl)
      have hlk : ((L.take k).map (kWord attr)).length = k := by rw [List.length_map, List.length_take]; omega
      have HLK := hide hlk
      have sB := (unhide HB).size
      clear hx hc hlk
      go_wp2_with (first
        | (go_at_call 25; refine (ofW attr x _).mono ?_; rintro e w3 ⟨rfl, b3⟩; have B3 := hide b3; have s3 := b3.size; clear b3)
        | (at_builtin; refine wpList_app rowP rfl _ _ rfl Y.heap.size q c ((L.take k).map (kWord attr)) (some ⟨w3.heap.size, 0, none⟩) 1 [kWord attr x] k 1 (k + 1) (unhide HLK) rfl rfl rfl rfl (((unhide HO).below (unhide B3)).below ((Below.refl _ _).alloc (Nat.le_refl _) _)) (srcKyA _ _) (by unfold maxLen; omega) (by omega) (by simp; omega) ?_; intro q5 c5 w5 ho5 hb5 _ _; have HO5 := hide ho5; have HB5 := hide ((unhide HB).trans (((unhide B3).mono sB).trans (((Below.refl Y.heap.size w3).alloc (by omega) _).trans hb5))); clear ho5 hb5))
      go_roundw
      case rel => exact ⟨k + 1, q5, c5, by omega, rfl, by go_num, hide (by rw [unhide HT]; exact unhide HO5), HB5⟩
      case measure => simp [intOf]; omega
    · obtain rfl : k = L.length := by omega
      have k1 : ¬ (L.length : Int) < (L.length : Int) := by omega
      go_wp2
      go_ret
      have ho := unhide HO
      rw [List.take_length] at ho
      exact ⟨⟨q, c, by first | rfl | (rw [List.length_map]; rfl), ho.mono (unhide BYw).size⟩, below_sub (unhide BYw) (unhide HB)⟩
end Go.Proofs.YtedakipjfpdajaaGreatDoor
