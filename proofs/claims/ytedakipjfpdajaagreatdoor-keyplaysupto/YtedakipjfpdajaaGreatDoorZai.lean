/- key.Event over the first pairs of the names. -/
import Derived.Test.YtedakipjfpdajaaGreatDoorZah
import Derived.Test.YtedakipjfpdajaaGreatDoorZac
namespace Go.Proofs.YtedakipjfpdajaaGreatDoor
open Go.RowKit Go.Sort Go.Shelf

/-- The keys of a pair. -/
def evKeys (x : Pr) : List Ky := if chkV x.kind x.num x.word = 0 then (if x.kind = 1 then numKeys x.name x.num (x.num + 2147483648).toNat else wordKeys x.name x.word) else []
theorem chk_is (k n : Int) (s : ByteArray) : (chkV k n s = 0 ∧ ((k = 1 ∧ -2147483648 ≤ n ∧ n ≤ 2147483647 ∧ s.size = 0) ∨ (k = 2 ∧ n = 0 ∧ s.size ≤ 64))) ∨ (chkV k n s = 1 ∧ ¬ ((k = 1 ∧ -2147483648 ≤ n ∧ n ≤ 2147483647 ∧ s.size = 0) ∨ (k = 2 ∧ n = 0 ∧ s.size ≤ 64))) := by
  unfold chkV
  by_cases h : (k = 1 ∧ -2147483648 ≤ n ∧ n ≤ 2147483647 ∧ s.size = 0) ∨ (k = 2 ∧ n = 0 ∧ s.size ≤ 64)
  · exact Or.inl ⟨if_pos h, h⟩
  · exact Or.inr ⟨if_neg h, h⟩
theorem evKeys_len (x : Pr) : (evKeys x).length ≤ 66 := by
  unfold evKeys
  rcases chk_is x.kind x.num x.word with ⟨h, h2⟩ | ⟨h, _⟩
  · rw [if_pos h]
    split
    · simp [numKeys, pathL_len]
    · next hk =>
      rcases h2 with h2 | h2
      · exact absurd h2.1 hk
      · simp [wordKeys]; omega
  · rw [if_neg (by omega)]; simp
theorem ev_len (F : List Pr) : (F.flatMap evKeys).length ≤ F.length * 66 := by
  induction F with
  | nil => simp
  | cons x F ih =>
    rw [List.flatMap_cons, List.length_append, List.length_cons]
    have := evKeys_len x
    omega
set_option maxRecDepth 100000 in
set_option maxHeartbeats 2000000 in
theorem event_of (p : Option Addr) (n cp : Nat) (w : World) (F : List Pr) (hF : F.length * 3696 ≤ 140737488355328) (hf : Calls Tryz.prog 30 #[.slice p n cp] w fun e w' => (∃ q cap, e = .returned (.slice q F.length cap) ∧ OwnK encR 42 4 w.heap.size w' q cap F) ∧ Below w.heap.size w w') :
    Calls Tryz.prog 10 #[.slice p n cp] w fun e w' => (∃ q c, e = .returned (.slice q (F.flatMap evKeys).length c) ∧ OwnK encK 46 5 w.heap.size w' q c (F.flatMap evKeys)) ∧ Below w.heap.size w w' := by
  have f9 : (F.length : Int) ≤ 38078324771 := by omega
  obtain ⟨R, hR⟩ : ∃ R, F.flatMap evKeys = R := ⟨_, rfl⟩
  rw [hR]
  have HR := hide hR
  clear hR
  go_enter Tryz.func10, Tryz.ntmps10
  go_wp2_with (go_at_call 30; refine hf.mono ?_; rintro e w1 ⟨⟨q1, c1, rfl, o1⟩, b1⟩; have S1 := hide o1.ls; have B1 := hide b1; have s1 := b1.size; clear o1 b1)
  clear hf
  go_loopw [3, 9] (fun kv iv wr => ∃ (k m : Nat) (q : Option Addr) (c : Nat), k ≤ F.length ∧ Hid (m = ((F.take k).flatMap evKeys).length) ∧ kv = .slice q m c ∧ iv = .int .i64 k ∧ Hid (OwnK encK 46 5 w1.heap.size wr q c ((F.take k).flatMap evKeys)) ∧ Hid (Below w1.heap.size w1 wr)) (fun _ iv _ => F.length - (intOf iv).toNat)
  case atStart => exact ⟨0, 0, none, 0, Nat.zero_le _, hide (by simp), rfl, rfl, hide (by simpa using OwnK.nil _ _), hide (Below.refl _ _)⟩
  case round =>
    obtain ⟨k, m, q, c, hk, HM, rfl, rfl, HO, HB⟩ := hrel
    have sB := (unhide HB).size
    by_cases hlt : k < F.length
    · obtain ⟨x, hx, _⟩ := get_at hlt
      obtain ⟨bs, os, hqs, hbs, r0, r1, r2, r3⟩ := pairAt (unhide S1) hx
      subst hqs
      have p0 := ((unhide HB).cell (p := ⟨bs, os + k * 4, none⟩) hbs).trans r0
      have p1 := ((unhide HB).cell (p := ⟨bs, os + k * 4 + 1, none⟩) hbs).trans r1
      have p2 := ((unhide HB).cell (p := ⟨bs, os + k * 4 + 2, none⟩) hbs).trans r2
      have p3 := ((unhide HB).cell (p := ⟨bs, os + k * 4 + 3, none⟩) hbs).trans r3
      have HT := hide (show (F.take (k + 1)).flatMap evKeys = (F.take k).flatMap evKeys ++ evKeys x by rw [take_snoc_of hx, List.flatMap_append]; simp)
      have HM6 := hide (show m ≤ k * 66 by have h1 := ev_len (F.take k); rw [← unhide HM, List.length_take] at h1; have : min k F.length = k := (by omega); rw [this] at h1; exact h1)
      obtain ⟨K, hK⟩ : ∃ K, (F.take k).flatMap evKeys = K := ⟨_, rfl⟩
      rw [hK] at HM HO HT
      have k0 : (0 : Int) ≤ (k : Int) := by omega
      have k1 : (k : Int) < (F.length : Int) := by omega
      have Y8 := hide (World.alloc_heap_new wr (.cells #[.string x.name, .int .i64 x.kind, .int .i64 x.num, .string x.word] 42))
      obtain ⟨y0, y1, y2, y3⟩ := cells_of_pair (x := x) (unhide Y8)
      have aY := hide ((Below.refl wr.heap.size wr).alloc (Nat.le_refl _) (.cells #[.string x.name, .int .i64 x.kind, .int .i64 x.num, .string x.word] 42))
      have hck := fun W => check_any x.kind x.num x.word W
      clear hx r0 r1 r2 r3 hK
      rcases chk_is x.kind x.num x.word with ⟨h1, h2⟩ | ⟨h1, h2⟩
      · by_cases hk1 : x.kind = 1
        · have hpn : x.num + 2147483648 = ((x.num + 2147483648).toNat : Int) := by omega
          have hpl : (x.num + 2147483648).toNat < 4294967296 := by omega
          have hev : evKeys x = numKeys x.name x.num (x.num + 2147483648).toNat := by unfold evKeys; rw [if_pos h1, if_pos hk1]
          have hevl : (evKeys x).length = 34 := by rw [hev]; simp [numKeys, pathL_len]
          obtain ⟨p, hp⟩ : ∃ p, (x.num + 2147483648).toNat = p := ⟨_, rfl⟩
          rw [hp] at hpn hpl hev
          have HE := hide hev
          have HEL := hide hevl
          have kb : (x.kind == 1) = true := by simpa using hk1
          have hA := fun (W : World) (hW : Below wr.heap.size wr W) => appNum w1.heap.size q c K x.name x.num p hpn hpl W ((unhide HO).below hW) (Nat.le_trans sB hW.size) (by have := unhide HM; have := unhide HM6; omega)
          rw [h1] at hck
          rw [← unhide HM] at hA
          clear hev hevl hp h1 h2 hk1
          go_wp2_with (first
            | (go_at_call 31; refine (hck _).mono ?_; rintro e w2 ⟨rfl, b2⟩; have B2 := hide (below_sub (unhide aY) b2); have s2 := (unhide B2).size; (obtain ⟨z0, z1, z2, z3⟩ := cells_of_pair (x := x) ((b2.block wr.heap.size (by simp)).trans (unhide Y8))); clear b2)
            | (go_at_call 32; refine (hA _ (unhide B2)).mono ?_; rintro e w3 ⟨⟨q3, c3, rfl, o3⟩, b3⟩; have O3 := hide o3; have B3 := hide ((unhide HB).trans (((unhide B2).mono sB).trans b3)); clear o3 b3))
          go_roundw
          case rel => exact ⟨k + 1, m + 34, q3, c3, by omega, hide (by rw [unhide HT, List.length_append, unhide HEL, ← unhide HM]), rfl, by go_num, hide (by rw [unhide HT, unhide HE]; exact unhide O3), B3⟩
          case measure => simp [intOf]; omega

        · have hsz : x.word.size ≤ 64 := by omega
          have hev : evKeys x = wordKeys x.name x.word := by unfold evKeys; rw [if_pos h1, if_neg hk1]
          have hevl : (evKeys x).length = 1 + (x.word.size + 1) := by rw [hev]; simp [wordKeys]; omega
          have HE := hide hev
          have HEL := hide hevl
          have kb : (x.kind == 1) = false := by simpa using hk1
          have hA := fun (W : World) (hW : Below wr.heap.size wr W) => appWord w1.heap.size q c K x.name x.word hsz W ((unhide HO).below hW) (Nat.le_trans sB hW.size) (by have := unhide HM; have := unhide HM6; omega)
          rw [h1] at hck
          rw [← unhide HM] at hA
          obtain ⟨m3, hm3⟩ : ∃ m3, m + 1 + (x.word.size + 1) = m3 := ⟨_, rfl⟩
          rw [hm3] at hA
          have HM3 := hide hm3
          clear hev hevl h1 hm3 h2 hk1
          go_wp2_with (first
            | (go_at_call 31; refine (hck _).mono ?_; rintro e w2 ⟨rfl, b2⟩; have B2 := hide (below_sub (unhide aY) b2); have s2 := (unhide B2).size; (obtain ⟨z0, z1, z2, z3⟩ := cells_of_pair (x := x) ((b2.block wr.heap.size (by simp)).trans (unhide Y8))); clear b2)
            | (go_at_call 33; refine (hA _ (unhide B2)).mono ?_; rintro e w3 ⟨⟨q3, c3, rfl, o3⟩, b3⟩; have O3 := hide o3; have B3 := hide ((unhide HB).trans (((unhide B2).mono sB).trans b3)); clear o3 b3))
          go_roundw
          case rel => exact ⟨k + 1, m3, q3, c3, by omega, hide (by rw [unhide HT, List.length_append, unhide HEL, ← unhide HM, ← unhide HM3]; omega), rfl, by go_num, hide (by rw [unhide HT, unhide HE]; exact unhide O3), B3⟩
          case measure => simp [intOf]; omega

      · rw [h1] at hck
        have hev : evKeys x = [] := by unfold evKeys; rw [if_neg (by omega)]
        have HE := hide hev
        clear hev h1 h2
        go_wp2_with (go_at_call 31; refine (hck _).mono ?_; rintro e w2 ⟨rfl, b2⟩; have B2 := hide (below_sub (unhide aY) b2); have s2 := (unhide B2).size; (obtain ⟨z0, z1, z2, z3⟩ := cells_of_pair (x := x) ((b2.block wr.heap.size (by simp)).trans (unhide Y8))); clear b2)
        go_roundw
        case rel => exact ⟨k + 1, m, q, c, by omega, hide (by rw [unhide HT, unhide HE, List.append_nil]; exact unhide HM), rfl, by go_num, hide (by rw [unhide HT, unhide HE, List.append_nil]; exact (unhide HO).below (unhide B2)), hide (below_sub (unhide HB) (unhide B2))⟩
        case measure => simp [intOf]; omega

    · obtain rfl : k = F.length := by omega
      have k1 : ¬ (F.length : Int) < (F.length : Int) := by omega
      go_wp2
      go_ret
      have ho := unhide HO
      have hm := unhide HM
      rw [List.take_length, unhide HR] at ho hm
      subst hm
      exact ⟨⟨q, c, rfl, ho.mono s1⟩, below_sub (unhide B1) (unhide HB)⟩
end Go.Proofs.YtedakipjfpdajaaGreatDoor
namespace Go.Proofs.YtedakipjfpdajaaGreatDoor
open Go.RowKit Go.Sort Go.Shelf

theorem ltK_of {a b : Ky} (h : cmpK a b = -1) : ltK a b := by unfold ltK; rw [h]; decide
theorem cmp_same (a : ByteArray) : cmpS a.data.toList a.data.toList = 0 := cmpS_refl _
theorem cmpI_lt' {a b : Int} (h : a < b) : cmpI a b = -1 := by unfold cmpI; rw [if_pos h]
theorem cmpI_self (a : Int) : cmpI a a = 0 := by unfold cmpI; rw [if_neg (by omega), if_neg (by omega)]
theorem kind_lt {a b : Ky} (h1 : a.attr = b.attr) (h2 : a.kind < b.kind) : ltK a b := by
  apply ltK_of
  unfold cmpK cmpT kParts
  simp only [h1, cmp_same, if_true, cmpI_lt' h2]
  rw [if_neg (by decide)]
theorem level_lt {a b : Ky} (h1 : a.attr = b.attr) (h2 : a.kind = b.kind) (h3 : a.level < b.level) : ltK a b := by
  apply ltK_of
  unfold cmpK cmpT kParts
  simp only [h1, h2, cmp_same, cmpI_self, if_true, cmpI_lt' h3]
  rw [if_neg (by decide)]
theorem num_lt {a b : Ky} (h1 : a.attr = b.attr) (h2 : a.kind = b.kind) (h3 : a.level = b.level) (h4 : a.num < b.num) : ltK a b := by
  apply ltK_of
  unfold cmpK cmpT kParts
  simp only [h1, h2, h3, cmp_same, cmpI_self, if_true, cmpI_lt' h4]
  rw [if_neg (by decide)]
theorem word_lt {a b : Ky} (h1 : a.attr = b.attr) (h2 : a.kind = b.kind) (h3 : a.level = b.level) (h4 : a.num = b.num) (h5 : cmpS a.word.data.toList b.word.data.toList < 0) : ltK a b := by
  unfold ltK cmpK cmpT kParts
  simp only [h1, h2, h3, h4, cmp_same, cmpI_self, if_true]
  exact h5
theorem less_pre : ∀ (l : List UInt8) (i j : Nat), i < j → j ≤ l.length → Op.bytesLess (l.take i) (l.take j) = true
  | [], i, j, h, h2 => by simp at h2; omega
  | c :: l, 0, j + 1, _, _ => by simp [Op.bytesLess]
  | c :: l, i + 1, j + 1, h, h2 => by
    have := less_pre l i j (by omega) (by simpa using h2)
    simp [Op.bytesLess, this]
  | c :: l, _, 0, h, _ => by omega
theorem ext_list (s : ByteArray) (k : Nat) : (s.extract 0 k).data.toList = s.data.toList.take k := by
  simp [ByteArray.data_extract]
theorem numKeys_str (attr : ByteArray) (x : Int) (p : Nat) : Str (numKeys attr x p) := by
  unfold numKeys Str
  refine List.pairwise_cons.2 ⟨fun y hy => ?_, ?_⟩
  · obtain ⟨z, _, rfl⟩ := List.mem_map.1 hy
    exact kind_lt rfl (show (1 : Int) < 3 by decide)
  · rw [List.pairwise_map]
    unfold pathL
    rw [List.pairwise_map]
    exact List.Pairwise.imp (fun {a b} (h : a < b) => level_lt (a := kSpan attr (a, p / 2 ^ a)) (b := kSpan attr (b, p / 2 ^ b)) rfl rfl (by simp only [kSpan]; omega)) List.pairwise_lt_range
theorem wordKeys_str (attr s : ByteArray) : Str (wordKeys attr s) := by
  unfold wordKeys Str
  refine List.pairwise_cons.2 ⟨fun y hy => ?_, ?_⟩
  · obtain ⟨z, _, rfl⟩ := List.mem_map.1 hy
    exact kind_lt rfl (show (2 : Int) < 4 by decide)
  · rw [List.pairwise_map]
    refine List.Pairwise.imp_of_mem ?_ List.pairwise_lt_range
    intro a b ha hb hab
    refine word_lt rfl rfl rfl rfl ?_
    simp only [kPre, ext_list]
    rw [cmpS_lt (less_pre _ _ _ hab (by have := List.mem_range.1 hb; simp; show b ≤ s.size; omega))]
    decide
theorem ev_facts (x : Pr) : Str (evKeys x) ∧ (∀ y ∈ evKeys x, 1 ≤ y.kind ∧ y.kind ≤ 4) ∧ (evKeys x).length = (if x.kind = 1 ∧ -2147483648 ≤ x.num ∧ x.num ≤ 2147483647 ∧ x.word.size = 0 then 34 else if x.kind = 2 ∧ x.num = 0 ∧ x.word.size ≤ 64 then x.word.size + 2 else 0) := by
  unfold evKeys
  rcases chk_is x.kind x.num x.word with ⟨h, h2⟩ | ⟨h, h2⟩
  · rw [if_pos h]
    rcases h2 with h2 | h2
    · rw [if_pos h2.1, if_pos h2]
      refine ⟨numKeys_str _ _ _, fun y hy => ?_, by simp [numKeys, pathL_len]⟩
      rcases List.mem_cons.1 hy with rfl | hy
      · exact ⟨by simp [kInt], by simp [kInt]⟩
      · obtain ⟨z, _, rfl⟩ := List.mem_map.1 hy
        exact ⟨by simp [kSpan], by simp [kSpan]⟩
    · rw [if_neg (by omega), if_neg (by omega), if_pos h2]
      refine ⟨wordKeys_str _ _, fun y hy => ?_, by simp [wordKeys]⟩
      rcases List.mem_cons.1 hy with rfl | hy
      · exact ⟨by simp [kWord], by simp [kWord]⟩
      · obtain ⟨z, _, rfl⟩ := List.mem_map.1 hy
        exact ⟨by simp [kPre], by simp [kPre]⟩
  · rw [if_neg (by omega), if_neg (fun h3 => h2 (Or.inl h3)), if_neg (fun h3 => h2 (Or.inr h3))]
    exact ⟨Str.nil, fun y hy => by simp at hy, rfl⟩
/-- What a predicate asks for, key by key, in no order. -/
def rawOf (kind : Int) (attr : ByteArray) (ints : List Int) (words : List ByteArray) (lo hi : Int) : List Ky :=
  if predB kind attr ints words lo hi = true then (if kind = 1 then ints.map (kInt attr) else if kind = 2 then words.map (kWord attr) else if kind = 3 then (if hi < lo then [] else if lo = hi then [kInt attr lo] else (coverZ lo hi).map (kSpan attr)) else words.map (kPre attr)) else []
/-- The keys of a predicate. -/
def keysOf (kind : Int) (attr : ByteArray) (ints : List Int) (words : List ByteArray) (lo hi : Int) : List Ky := ris (rawOf kind attr ints words lo hi)
theorem pred_kinds {kind : Int} {attr : ByteArray} {ints : List Int} {words : List ByteArray} {lo hi : Int} (h : predB kind attr ints words lo hi = true) : (kind = 1 ∧ ints.length ≤ 64) ∨ (kind = 2 ∧ words.length ≤ 64) ∨ kind = 3 ∨ (kind = 4 ∧ words.length = 1) := by
  unfold predB memB at h
  by_cases h1 : kind = 1
  · subst h1; simp at h; omega
  by_cases h2 : kind = 2
  · subst h2; simp at h; omega
  by_cases h3 : kind = 3
  · exact Or.inr (Or.inr (Or.inl h3))
  by_cases h4 : kind = 4
  · subst h4; simp at h; omega
  · simp [h1, h2, h3, h4] at h
theorem of_facts (kind : Int) (attr : ByteArray) (ints : List Int) (words : List ByteArray) (lo hi : Int) : (keysOf kind attr ints words lo hi).length ≤ 64 ∧ (kind = 3 → (keysOf kind attr ints words lo hi).length ≤ 62) ∧ ∀ y ∈ keysOf kind attr ints words lo hi, 1 ≤ y.kind ∧ y.kind ≤ 4 := by
  have hraw : (rawOf kind attr ints words lo hi).length ≤ 64 ∧ (kind = 3 → (rawOf kind attr ints words lo hi).length ≤ 62) ∧ ∀ y ∈ rawOf kind attr ints words lo hi, 1 ≤ y.kind ∧ y.kind ≤ 4 := by
    unfold rawOf
    cases hp : predB kind attr ints words lo hi with
    | false => rw [if_neg (by simp)]; exact ⟨by simp, fun _ => by simp, fun y hy => by simp at hy⟩
    | true =>
      rw [if_pos rfl]
      rcases pred_kinds hp with ⟨rfl, hl⟩ | ⟨rfl, hl⟩ | rfl | ⟨rfl, hl⟩
      · rw [if_pos rfl]
        refine ⟨by simpa using hl, fun h => by omega, fun y hy => ?_⟩
        obtain ⟨z, _, rfl⟩ := List.mem_map.1 hy
        exact ⟨by simp [kInt], by simp [kInt]⟩
      · rw [if_neg (by decide), if_pos rfl]
        refine ⟨by simpa using hl, fun h => by omega, fun y hy => ?_⟩
        obtain ⟨z, _, rfl⟩ := List.mem_map.1 hy
        exact ⟨by simp [kWord], by simp [kWord]⟩
      · rw [if_neg (by decide), if_neg (by decide), if_pos rfl]
        have hc := (coverZ_facts lo hi).2
        by_cases h1 : hi < lo
        · rw [if_pos h1]; exact ⟨by simp, fun _ => by simp, fun y hy => by simp at hy⟩
        · rw [if_neg h1]
          by_cases h2 : lo = hi
          · rw [if_pos h2]
            refine ⟨by simp, fun _ => by simp, fun y hy => ?_⟩
            obtain rfl : y = kInt attr lo := by simpa using hy
            exact ⟨by simp [kInt], by simp [kInt]⟩
          · rw [if_neg h2, List.length_map]
            refine ⟨by omega, fun _ => hc, fun y hy => ?_⟩
            obtain ⟨z, _, rfl⟩ := List.mem_map.1 hy
            exact ⟨by simp [kSpan], by simp [kSpan]⟩
      · rw [if_neg (by decide), if_neg (by decide), if_neg (by decide), List.length_map]
        refine ⟨by omega, fun h => by omega, fun y hy => ?_⟩
        obtain ⟨z, _, rfl⟩ := List.mem_map.1 hy
        exact ⟨by simp [kPre], by simp [kPre]⟩
  unfold keysOf
  have hl := ris_len (rawOf kind attr ints words lo hi)
  exact ⟨by omega, fun h => by have := hraw.2.1 h; omega, fun y hy => hraw.2.2 y (mem_ris.1 hy)⟩
theorem ints_ris (attr : ByteArray) (ints : List Int) : ris (ints.map (kInt attr)) = (onceI ints).map (kInt attr) := by
  obtain ⟨h1, h2, _⟩ := onceI_spec ints
  refine ris_of ?_ fun x => ?_
  · unfold Str
    rw [List.pairwise_map]
    exact List.Pairwise.imp (fun {a b} (h : a < b) => num_lt (a := kInt attr a) (b := kInt attr b) rfl rfl rfl h) h2
  · rw [List.mem_map, List.mem_map]
    constructor
    · rintro ⟨a, ha, rfl⟩; exact ⟨a, (h1 a).1 ha, rfl⟩
    · rintro ⟨a, ha, rfl⟩; exact ⟨a, (h1 a).2 ha, rfl⟩
theorem words_ris (attr : ByteArray) (words : List ByteArray) : ris (words.map (kWord attr)) = (onceS words).map (kWord attr) := by
  obtain ⟨h1, h2, _⟩ := onceS_spec words
  refine ris_of ?_ fun x => ?_
  · unfold Str
    rw [List.pairwise_map]
    exact List.Pairwise.imp (fun {a b} (h : ltS a b) => word_lt (a := kWord attr a) (b := kWord attr b) rfl rfl rfl rfl h) h2
  · rw [List.mem_map, List.mem_map]
    constructor
    · rintro ⟨a, ha, rfl⟩; exact ⟨a, (h1 a).1 ha, rfl⟩
    · rintro ⟨a, ha, rfl⟩; exact ⟨a, (h1 a).2 ha, rfl⟩
/-- key.Of. -/
theorem of_any (kind : Int) (attr : ByteArray) (qi : Option Addr) (ci : Nat) (ints : List Int) (qw : Option Addr) (cw : Nat) (words : List ByteArray) (lo hi : Int) (w : World) (h1 : SlOf encI 1 w qi ci ints) (h2 : SlOf encS 1 w qw cw words) (l1 : ints.length ≤ 1000000000000000000) (l2 : words.length ≤ 1000000000000000000) (hG : G w) :
    Calls Tryz.prog 9 #[.agg #[.int .i64 kind, .string attr, .slice qi ints.length ci, .slice qw words.length cw, .int .i64 lo, .int .i64 hi]] w fun e w' => (∃ q c, e = .returned (.slice q (keysOf kind attr ints words lo hi).length c) ∧ OwnK encK 46 5 w.heap.size w' q c (keysOf kind attr ints words lo hi)) ∧ Below w.heap.size w w' := by
  unfold keysOf rawOf
  cases hp : predB kind attr ints words lo hi with
  | false =>
    rw [if_neg (by simp)]
    exact (of_no kind attr qi ints.length ci qw words.length cw lo hi w fun W hW => normal_no kind attr qi ci ints qw cw words lo hi W (h1.below hW) (h2.below hW) l1 l2 hp).mono fun e w' ⟨he, hb⟩ => ⟨⟨none, 0, he, OwnK.nil _ _⟩, hb⟩
  | true =>
    rw [if_pos rfl]
    rcases pred_kinds hp with ⟨rfl, hl⟩ | ⟨rfl, hl⟩ | rfl | ⟨rfl, hl⟩
    · rw [if_pos rfl, ints_ris]
      exact of_ints 1 attr qi ints.length ci qw words.length cw lo hi attr w (onceI ints) (Nat.le_trans (onceI_spec ints).2.2 hl) fun W hW => normal_1 attr qi ci ints qw cw words lo hi W (h1.below hW) (h2.below hW) l1 l2 hp
    · rw [if_neg (by decide), if_pos rfl, words_ris]
      exact of_words 2 attr qi ints.length ci qw words.length cw lo hi attr w (onceS words) (Nat.le_trans (onceS_spec words).2.2 hl) fun W hW => normal_2 attr qi ci ints qw cw words lo hi W (h1.below hW) (h2.below hW) l1 l2 hp
    · rw [if_neg (by decide), if_neg (by decide), if_pos rfl]
      by_cases hc : hi < lo
      · rw [if_pos hc]
        exact (of_no 3 attr qi ints.length ci qw words.length cw lo hi w fun W hW => normal_3n attr qi ci ints qw cw words lo hi W (h1.below hW) (h2.below hW) l1 l2 hp hc).mono fun e w' ⟨he, hb⟩ => ⟨⟨none, 0, he, OwnK.nil _ _⟩, hb⟩
      · rw [if_neg hc]
        by_cases he : lo = hi
        · rw [if_pos he]
          exact of_ints 3 attr qi ints.length ci qw words.length cw lo hi attr w [lo] (by simp) fun W hW => normal_3e attr qi ci ints qw cw words lo hi W (h1.below hW) (h2.below hW) l1 l2 hp he
        · rw [if_neg he]
          exact of_span 3 attr qi ints.length ci qw words.length cw lo hi attr w lo hi hG fun W hW => normal_3r attr qi ci ints qw cw words lo hi W (h1.below hW) (h2.below hW) l1 l2 hp (by omega)
    · rw [if_neg (by decide), if_neg (by decide), if_neg (by decide)]
      obtain ⟨s, hs⟩ : ∃ s, words = [s] := List.length_eq_one_iff.1 hl
      have hs0 : words[0]? = some s := by rw [hs]; rfl
      rw [show ris (words.map (kPre attr)) = [kPre attr s] by rw [hs]; rfl]
      exact of_pre 4 attr qi ints.length ci qw words.length cw lo hi attr w s fun W hW => normal_4 attr qi ci ints qw cw words lo hi W (h1.below hW) (h2.below hW) l1 l2 hp s hs0
end Go.Proofs.YtedakipjfpdajaaGreatDoor
