/- An event and a predicate share a key just where they meet, and then one alone: the plain part. -/
import Derived.Test.YtedakipjfpdajaaGreatDoorZai
import Derived.Test.YtedakipjfpdajaaGreatDoorZaf
import Derived.Test.YtedakipjfpdajaaGreatDoorZan
namespace Go.Proofs.YtedakipjfpdajaaGreatDoor
open Go.RowKit Go.Sort Go.Shelf

theorem shared_one {a b : List Ky} {k : Ky} (h1 : k ∈ a) (h2 : k ∈ b) (hu : ∀ x, x ∈ a → x ∈ b → x = k) : (shared a b).length = 1 := by
  have : shared a b = [k] := str_ext (str_shared a b) (by unfold Str; exact List.pairwise_singleton _ _) fun x => by
    rw [mem_shared, List.mem_singleton]
    exact ⟨fun h => hu x h.1 h.2, fun h => by subst h; exact ⟨h1, h2⟩⟩
  rw [this]; rfl
theorem shared_none {a b : List Ky} (h : ∀ x, x ∈ a → x ∈ b → False) : (shared a b).length = 0 := by
  have : shared a b = [] := List.eq_nil_iff_forall_not_mem.2 fun x hx => h x (mem_shared.1 hx).1 (mem_shared.1 hx).2
  rw [this]; rfl
theorem mem_num {a : ByteArray} {n : Int} {p : Nat} {x : Ky} : x ∈ numKeys a n p ↔ x = kInt a n ∨ ∃ t, t < 33 ∧ x = kSpan a (t, p / 2 ^ t) := by
  unfold numKeys pathL
  rw [List.mem_cons, List.map_map, List.mem_map]
  constructor
  · rintro (h | ⟨t, ht, rfl⟩)
    · exact Or.inl h
    · exact Or.inr ⟨t, List.mem_range.1 ht, rfl⟩
  · rintro (h | ⟨t, ht, rfl⟩)
    · exact Or.inl h
    · exact Or.inr ⟨t, List.mem_range.2 ht, rfl⟩
theorem mem_word {a s : ByteArray} {x : Ky} : x ∈ wordKeys a s ↔ x = kWord a s ∨ ∃ k, k ≤ s.size ∧ x = kPre a (s.extract 0 k) := by
  unfold wordKeys
  rw [List.mem_cons, List.mem_map]
  constructor
  · rintro (h | ⟨t, ht, rfl⟩)
    · exact Or.inl h
    · exact Or.inr ⟨t, by have := List.mem_range.1 ht; omega, rfl⟩
  · rintro (h | ⟨t, ht, rfl⟩)
    · exact Or.inl h
    · exact Or.inr ⟨t, List.mem_range.2 (by omega), rfl⟩
theorem ev_attr {y : Pr} {x : Ky} (h : x ∈ evKeys y) : x.attr = y.name := by
  unfold evKeys at h
  split at h
  · split at h
    · rcases mem_num.1 h with rfl | ⟨t, _, rfl⟩ <;> rfl
    · rcases mem_word.1 h with rfl | ⟨t, _, rfl⟩ <;> rfl
  · cases h
theorem raw_attr {kind : Int} {attr : ByteArray} {ints : List Int} {words : List ByteArray} {lo hi : Int} {x : Ky} (h : x ∈ rawOf kind attr ints words lo hi) : x.attr = attr := by
  unfold rawOf at h
  split at h
  · split at h
    · obtain ⟨z, _, rfl⟩ := List.mem_map.1 h; rfl
    · split at h
      · obtain ⟨z, _, rfl⟩ := List.mem_map.1 h; rfl
      · split at h
        · split at h
          · cases h
          · split at h
            · rw [List.mem_singleton] at h; rw [h]; rfl
            · obtain ⟨z, _, rfl⟩ := List.mem_map.1 h; rfl
        · obtain ⟨z, _, rfl⟩ := List.mem_map.1 h; rfl
  · cases h
theorem mem_event {l : List Pr} {x : Ky} {a : ByteArray} (ha : x.attr = a) : x ∈ (fstR l).flatMap evKeys ↔ ∃ y, getP a l = some y ∧ x ∈ evKeys y := by
  rw [List.mem_flatMap]
  constructor
  · rintro ⟨y, hy, hx⟩
    have h1 := (fstR_mem l y).1 hy
    have e := ev_attr hx
    rw [← e, ha] at h1
    exact ⟨y, h1, hx⟩
  · rintro ⟨y, hy, hx⟩
    have e := ev_attr hx
    refine ⟨y, (fstR_mem l y).2 ?_, hx⟩
    rw [← e, ha]; exact hy
theorem getP_name {l : List Pr} {a : ByteArray} {y : Pr} (h : getP a l = some y) : y.name = a := by
  rw [getP_find] at h
  exact nm_iff.1 (List.find?_some h)
theorem hasI_iff {v : Int} {l : List Int} : hasI v l = true ↔ v ∈ l := by
  unfold hasI
  rw [List.any_eq_true]
  exact ⟨fun ⟨x, hx, h⟩ => by have : v = x := by simpa using h
                              rw [this]; exact hx, fun h => ⟨v, h, by simp⟩⟩
theorem hasS_iff {v : ByteArray} {l : List ByteArray} : hasS v l = true ↔ v ∈ l := by
  unfold hasS
  rw [List.any_eq_true]
  exact ⟨fun ⟨x, hx, h⟩ => by have h2 : v = x := bytes_ext (by simpa [ByteArray.toList_eq] using h)
                              rw [h2]; exact hx, fun h => ⟨v, h, by simp⟩⟩
theorem prefB_iff {s u : ByteArray} : prefB s u = true ↔ ∃ k, k ≤ s.size ∧ u = s.extract 0 k := by
  unfold prefB
  rw [Bool.and_eq_true, decide_eq_true_iff]
  constructor
  · rintro ⟨h1, h2⟩
    exact ⟨u.size, h1, (bytes_ext (by simpa [ByteArray.toList_eq] using h2)).symm⟩
  · rintro ⟨k, hk, rfl⟩
    have hs : (s.extract 0 k).size = k := by rw [ByteArray.size_extract]; omega
    rw [hs]
    exact ⟨hk, by simp⟩
theorem pow_lt33 {t : Nat} (h : 2 ^ t ≤ 4294967296) : t < 33 := by
  refine Classical.byContradiction fun hn => ?_
  have h2 : 2 ^ 33 ≤ 2 ^ t := Nat.pow_le_pow_right (by decide) (by omega)
  have h3 : (2 : Nat) ^ 33 = 8589934592 := by decide
  omega
/-- A predicate in form against the value of its name. -/
theorem told_is {kind : Int} {attr : ByteArray} {ints : List Int} {words : List ByteArray} {lo hi : Int} {y : Pr} (hp : predB kind attr ints words lo hi = true) (hn : y.name = attr) (hc : chkV y.kind y.num y.word = 0) :
    (toldB kind ints words lo hi y = true → ∃ k ∈ rawOf kind attr ints words lo hi, k ∈ evKeys y ∧ ∀ x ∈ rawOf kind attr ints words lo hi, x ∈ evKeys y → x = k) ∧ (toldB kind ints words lo hi y = false → ∀ x ∈ rawOf kind attr ints words lo hi, x ∈ evKeys y → False) := by
  have hev : evKeys y = if y.kind = 1 then numKeys attr y.num (y.num + 2147483648).toNat else wordKeys attr y.word := by unfold evKeys; rw [if_pos hc, hn]
  have hraw : rawOf kind attr ints words lo hi = (if kind = 1 then ints.map (kInt attr) else if kind = 2 then words.map (kWord attr) else if kind = 3 then (if hi < lo then [] else if lo = hi then [kInt attr lo] else (coverZ lo hi).map (kSpan attr)) else words.map (kPre attr)) := by unfold rawOf; rw [if_pos hp]
  rw [hev, hraw]
  unfold toldB
  rcases chk_range hc with ⟨yk, y1, y2, _⟩ | ⟨yk, _, _⟩
  · -- a number
    rw [if_pos yk]
    rcases pred_kinds hp with ⟨rfl, _⟩ | ⟨rfl, _⟩ | rfl | ⟨rfl, _⟩
    · simp only [if_true, yk, beq_self_eq_true, Bool.true_and]
      refine ⟨fun h => ⟨kInt attr y.num, List.mem_map.2 ⟨_, hasI_iff.1 h, rfl⟩, mem_num.2 (Or.inl rfl), fun x hx he => ?_⟩, fun h x hx he => ?_⟩
      · obtain ⟨z, _, rfl⟩ := List.mem_map.1 hx
        rcases mem_num.1 he with e | ⟨t, _, e⟩
        · exact e
        · exact absurd (congrArg Ky.kind e) (by simp [kInt, kSpan])
      · obtain ⟨z, hz, rfl⟩ := List.mem_map.1 hx
        rcases mem_num.1 he with e | ⟨t, _, e⟩
        · have e2 : z = y.num := congrArg Ky.num e
          rw [e2] at hz
          rw [hasI_iff.2 hz] at h; cases h
        · exact absurd (congrArg Ky.kind e) (by simp [kInt, kSpan])
    · rw [if_neg (by decide), if_pos rfl, if_neg (by decide), if_pos rfl]
      refine ⟨fun h => by simp [yk] at h, fun _ x hx he => ?_⟩
      obtain ⟨z, _, rfl⟩ := List.mem_map.1 hx
      rcases mem_num.1 he with e | ⟨t, _, e⟩ <;> exact absurd (congrArg Ky.kind e) (by simp [kInt, kSpan, kWord])
    · rw [if_neg (by decide), if_neg (by decide), if_pos rfl, if_neg (by decide), if_neg (by decide), if_pos rfl]
      simp only [yk, beq_self_eq_true, Bool.true_and, Bool.and_eq_true, decide_eq_true_iff]
      by_cases h1 : hi < lo
      · rw [if_pos h1]
        exact ⟨fun h => by omega, fun _ x hx => by cases hx⟩
      · rw [if_neg h1]
        by_cases h2 : lo = hi
        · rw [if_pos h2]
          subst h2
          refine ⟨fun h => ⟨kInt attr lo, by simp, mem_num.2 (Or.inl (by rw [show lo = y.num by omega])), fun x hx _ => by simpa using hx⟩, fun h x hx he => ?_⟩
          rw [List.mem_singleton] at hx
          subst hx
          rcases mem_num.1 he with e | ⟨t, _, e⟩
          · have e2 : lo = y.num := congrArg Ky.num e
            subst e2
            simp at h
          · exact absurd (congrArg Ky.kind e) (by simp [kInt, kSpan])
        · rw [if_neg h2]
          unfold coverZ
          obtain ⟨p, hpp⟩ : ∃ p, (y.num + 2147483648).toNat = p := ⟨_, rfl⟩
          obtain ⟨p0, hp0⟩ : ∃ p0, (max lo (-2147483648) + 2147483648).toNat = p0 := ⟨_, rfl⟩
          obtain ⟨r, hr⟩ : ∃ r, (min hi 2147483647 - max lo (-2147483648) + 1).toNat = r := ⟨_, rfl⟩
          rw [hpp, hp0, hr]
          have hin : (lo ≤ y.num ∧ y.num ≤ hi) ↔ (p0 ≤ p ∧ p < p0 + r) := by omega
          have hr2 : r ≤ 4294967296 := by omega
          have e64 : (2 : Nat) ^ 64 = 18446744073709551616 := by decide
          obtain ⟨s1, s2, s3⟩ := cover_stab r p0 r p (Nat.le_refl _) (by omega)
          have hmem : ∀ x ∈ cover p0 r, kSpan attr x ∈ numKeys attr y.num p → p / 2 ^ x.1 = x.2 := by
            intro x _ he
            rcases mem_num.1 he with e | ⟨t, _, e⟩
            · exact absurd (congrArg Ky.kind e) (by simp [kInt, kSpan])
            · have e1 : (x.1 : Int) = (t : Int) := congrArg Ky.level e
              have e2 : (x.2 : Int) = ((p / 2 ^ t : Nat) : Int) := congrArg Ky.num e
              have e3 : x.1 = t := by omega
              rw [e3]; omega
          refine ⟨fun h => ?_, fun h x hx he => ?_⟩
          · obtain ⟨z, hz, hq⟩ := s1.2 (hin.1 h)
            refine ⟨kSpan attr z, List.mem_map.2 ⟨z, hz, rfl⟩, mem_num.2 (Or.inr ⟨z.1, pow_lt33 (Nat.le_trans (s3 z hz) hr2), by rw [hq]⟩), fun x hx he => ?_⟩
            obtain ⟨u, hu, rfl⟩ := List.mem_map.1 hx
            rw [s2 u hu z hz (hmem u hu he) hq]
          · obtain ⟨u, hu, rfl⟩ := List.mem_map.1 hx
            have h4 := hin.2 (s1.1 ⟨u, hu, hmem u hu he⟩)
            simp [h4.1, h4.2] at h
    · rw [if_neg (by decide), if_neg (by decide), if_neg (by decide), if_neg (by decide), if_neg (by decide), if_neg (by decide)]
      refine ⟨fun h => by simp [yk] at h, fun _ x hx he => ?_⟩
      obtain ⟨z, _, rfl⟩ := List.mem_map.1 hx
      rcases mem_num.1 he with e | ⟨t, _, e⟩ <;> exact absurd (congrArg Ky.kind e) (by simp [kInt, kSpan, kPre])
  · -- a word
    rw [if_neg (show ¬ y.kind = 1 by omega)]
    rcases pred_kinds hp with ⟨rfl, _⟩ | ⟨rfl, _⟩ | rfl | ⟨rfl, hw⟩
    · simp only [if_true]
      refine ⟨fun h => by simp [yk] at h, fun _ x hx he => ?_⟩
      obtain ⟨z, _, rfl⟩ := List.mem_map.1 hx
      rcases mem_word.1 he with e | ⟨t, _, e⟩ <;> exact absurd (congrArg Ky.kind e) (by simp [kInt, kWord, kPre])
    · rw [if_neg (by decide), if_pos rfl, if_neg (by decide), if_pos rfl]
      simp only [yk, beq_self_eq_true, Bool.true_and]
      refine ⟨fun h => ⟨kWord attr y.word, List.mem_map.2 ⟨_, hasS_iff.1 h, rfl⟩, mem_word.2 (Or.inl rfl), fun x hx he => ?_⟩, fun h x hx he => ?_⟩
      · obtain ⟨z, _, rfl⟩ := List.mem_map.1 hx
        rcases mem_word.1 he with e | ⟨t, _, e⟩
        · exact e
        · exact absurd (congrArg Ky.kind e) (by simp [kWord, kPre])
      · obtain ⟨z, hz, rfl⟩ := List.mem_map.1 hx
        rcases mem_word.1 he with e | ⟨t, _, e⟩
        · have e2 : z = y.word := congrArg Ky.word e
          rw [e2] at hz
          rw [hasS_iff.2 hz] at h; cases h
        · exact absurd (congrArg Ky.kind e) (by simp [kWord, kPre])
    · rw [if_neg (by decide), if_neg (by decide), if_pos rfl, if_neg (by decide), if_neg (by decide), if_pos rfl]
      refine ⟨fun h => by simp [yk] at h, fun _ x hx he => ?_⟩
      split at hx
      · cases hx
      · split at hx
        · rw [List.mem_singleton] at hx
          subst hx
          rcases mem_word.1 he with e | ⟨t, _, e⟩ <;> exact absurd (congrArg Ky.kind e) (by simp [kInt, kWord, kPre])
        · obtain ⟨z, _, rfl⟩ := List.mem_map.1 hx
          rcases mem_word.1 he with e | ⟨t, _, e⟩ <;> exact absurd (congrArg Ky.kind e) (by simp [kSpan, kWord, kPre])
    · obtain ⟨u, rfl⟩ := List.length_eq_one_iff.1 hw
      rw [if_neg (by decide), if_neg (by decide), if_neg (by decide), if_neg (by decide), if_neg (by decide), if_neg (by decide)]
      simp only [yk, beq_self_eq_true, Bool.true_and, List.headD_cons, List.map_cons, List.map_nil, List.mem_singleton]
      refine ⟨fun h => ?_, fun h x hx he => ?_⟩
      · obtain ⟨k, hk, hu⟩ := prefB_iff.1 h
        exact ⟨kPre attr u, rfl, mem_word.2 (Or.inr ⟨k, hk, by rw [← hu]⟩), fun x hx _ => hx⟩
      · subst hx
        rcases mem_word.1 he with e | ⟨k, hk, e⟩
        · exact absurd (congrArg Ky.kind e) (by simp [kWord, kPre])
        · have e2 : u = y.word.extract 0 k := congrArg Ky.word e
          rw [prefB_iff.2 ⟨k, hk, e2⟩] at h; cases h
/-- How many keys a predicate and an event share. -/
theorem meets (kind : Int) (attr : ByteArray) (ints : List Int) (words : List ByteArray) (lo hi : Int) (l : List Pr) :
    (shared (keysOf kind attr ints words lo hi) ((fstR l).flatMap evKeys)).length = if holdsB kind attr ints words lo hi l = true then 1 else 0 := by
  have hat : ∀ x, x ∈ keysOf kind attr ints words lo hi → x.attr = attr := fun x hx => raw_attr (mem_ris.1 hx)
  cases hp : predB kind attr ints words lo hi with
  | false =>
    rw [holdsB_no hp, if_neg (by decide)]
    refine shared_none fun x hx _ => ?_
    have h := mem_ris.1 hx
    unfold rawOf at h
    rw [hp, if_neg (by decide)] at h
    cases h
  | true =>
    cases hg : getP attr l with
    | none =>
      rw [holdsB_none hg, if_neg (by decide)]
      refine shared_none fun x hx he => ?_
      obtain ⟨y, hy, _⟩ := (mem_event (hat x hx)).1 he
      rw [hg] at hy; cases hy
    | some y =>
      have key : ∀ x, x ∈ keysOf kind attr ints words lo hi → (x ∈ (fstR l).flatMap evKeys ↔ x ∈ evKeys y) := fun x hx => by
        rw [mem_event (hat x hx)]
        exact ⟨fun ⟨z, hz, h⟩ => by rw [hg] at hz; cases hz; exact h, fun h => ⟨y, hg, h⟩⟩
      by_cases hc : chkV y.kind y.num y.word = 0
      · rw [holdsB_told hp hg hc]
        obtain ⟨t1, t2⟩ := told_is hp (getP_name hg) hc
        cases ht : toldB kind ints words lo hi y with
        | true =>
          obtain ⟨k, k1, k2, k3⟩ := t1 ht
          rw [if_pos rfl]
          exact shared_one (mem_ris.2 k1) ((key k (mem_ris.2 k1)).2 k2) fun x hx he => k3 x (mem_ris.1 hx) ((key x hx).1 he)
        | false =>
          rw [if_neg (by decide)]
          exact shared_none fun x hx he => t2 ht x (mem_ris.1 hx) ((key x hx).1 he)
      · rw [holdsB_bad hg hc, if_neg (by decide)]
        refine shared_none fun x hx he => ?_
        have h := (key x hx).1 he
        unfold evKeys at h
        rw [if_neg hc] at h
        cases h
end Go.Proofs.YtedakipjfpdajaaGreatDoor
