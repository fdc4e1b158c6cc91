/- An event's keys rise: the first pair of each name, in the order of the names. -/
import Derived.Test.YtedakipjfpdajaaGreatDoorRfE
namespace Go.Proofs.YtedakipjfpdajaaGreatDoor

theorem cptR_str : ∀ (n : Nat) (l : List Pr), l.length = n → Sd l → (cptR l).Pairwise (fun x y => cmpN x y < 0) ∧ ∀ x ∈ cptR l, x ∈ l
  | 0, l, h, _ => by
    obtain rfl := List.length_eq_zero_iff.1 h
    exact ⟨List.Pairwise.nil, fun x hx => by simp [cptR] at hx⟩
  | n + 1, l, h, hs => by
    obtain ⟨m, x, rfl⟩ : ∃ m x, l = m ++ [x] := by
      rcases List.eq_nil_or_concat l with rfl | ⟨m, x, rfl⟩
      · simp at h
      · exact ⟨m, x, by simp⟩
    rw [sd_app] at hs
    obtain ⟨hm, _, hle⟩ := hs
    obtain ⟨ih, sub⟩ := cptR_str n m (by simpa using h) hm
    rw [cptR_snoc]
    unfold stepR
    split
    · exact ⟨ih, fun y hy => List.mem_append_left _ (sub y hy)⟩
    · rename_i hlast
      refine ⟨List.pairwise_append.2 ⟨ih, List.pairwise_singleton _ _, fun y hy z hz => ?_⟩, fun y hy => ?_⟩
      · obtain rfl : z = x := by simpa using hz
        have h1 := hle y (sub y hy) z (by simp)
        rcases Int.lt_or_eq_of_le h1 with h2 | h2
        · exact h2
        · exfalso
          have hne : cptR m ≠ [] := List.ne_nil_of_mem hy
          have e := List.dropLast_concat_getLast hne
          rw [List.getLast?_eq_some_getLast hne] at hlast
          rw [← e] at hy
          rcases List.mem_append.1 hy with hy | hy
          · have hp := ih
            rw [← e] at hp
            have h3 := (List.pairwise_append.1 hp).2.2 y hy _ (List.mem_singleton.2 rfl)
            have h4 := hle _ (sub _ (List.getLast_mem hne)) z (by simp)
            have h5 := cmpN_neg y z
            have h6 := cmpN_neg y ((cptR m).getLast hne)
            have h7 := cmpN_neg ((cptR m).getLast hne) z
            have h8 := cmpN_trans h4 (show cmpN z y ≤ 0 by omega)
            omega
          · obtain rfl := List.mem_singleton.1 hy
            exact hlast (by simp [cmpN_zero.1 h2])
      · rcases List.mem_append.1 hy with hy | hy
        · exact List.mem_append_left _ (sub y hy)
        · exact List.mem_append_right _ hy
theorem attr_lt {a b : Ky} (h : cmpS a.attr.data.toList b.attr.data.toList < 0) : ltK a b := by
  unfold ltK cmpK cmpT kParts
  rw [if_neg (by simp only; omega)]
  exact h
theorem event_str (l : List Pr) : Str ((fstR l).flatMap evKeys) := by
  have hp : (fstR l).Pairwise (fun x y => cmpN x y < 0) := by
    unfold fstR
    exact (cptR_str _ _ rfl (sd_exists l).choose_spec.1).1
  refine List.pairwise_flatMap.2 ⟨fun x _ => (ev_facts x).1, hp.imp fun {x y} h a ha b hb => attr_lt ?_⟩
  rw [ev_attr ha, ev_attr hb]
  exact h
theorem event_ris (l : List Pr) : ris ((fstL l).flatMap evKeys) = (fstR l).flatMap evKeys := by
  refine ris_of (event_str l) fun x => ?_
  rw [List.mem_flatMap, List.mem_flatMap]
  constructor
  · rintro ⟨y, hy, hx⟩; exact ⟨y, (fstL_mem l y).2 ((fstR_mem l y).1 hy), hx⟩
  · rintro ⟨y, hy, hx⟩; exact ⟨y, (fstR_mem l y).2 ((fstL_mem l y).1 hy), hx⟩
end Go.Proofs.YtedakipjfpdajaaGreatDoor
