/- RecordTorn answers true. -/
import Derived.Test.YtalicnifjgcldaaTornP
namespace Go.Proofs.Ytalicnifjgcldaa
open Go.RowKit Go.Sort Go.Shelf

theorem fit_in : ∀ (cs : List Ch) (m : Nat), (encs (cs.take (fit cs m))).length ≤ m := by
  intro cs
  induction cs with
  | nil => intro m; simp [encs]
  | cons c cs ih =>
    intro m
    by_cases h : (oneB c).length ≤ m
    · rw [fit_pos h, List.take_succ_cons, encs_cons, List.length_append]
      have := ih (m - (oneB c).length); omega
    · rw [fit_neg h]; simp [encs]
theorem fit_out : ∀ (cs : List Ch) (m : Nat), fit cs m < cs.length → m < (encs (cs.take (fit cs m + 1))).length := by
  intro cs
  induction cs with
  | nil => intro m h; simp at h
  | cons c cs ih =>
    intro m hl
    by_cases h : (oneB c).length ≤ m
    · rw [fit_pos h] at hl ⊢
      rw [List.take_succ_cons, encs_cons, List.length_append]
      have := ih (m - (oneB c).length) (by simpa using hl); omega
    · rw [fit_neg h, List.take_succ_cons, encs_cons, List.length_append]; omega
theorem encs_mono (cs : List Ch) {i j : Nat} (h : i ≤ j) : (encs (cs.take i)).length ≤ (encs (cs.take j)).length := by
  have e : cs.take j = cs.take i ++ (cs.take j).drop i := by
    have := List.take_append_drop i (cs.take j)
    rw [List.take_take, Nat.min_eq_left h] at this
    exact this.symm
  rw [e]
  simp [encs]
theorem sl_preC {w : World} {q : Option Addr} {c : Nat} {l : List Ch} (h : SlOf encC 3 w q c l) (n : Nat) (hn : n ≤ l.length) : SlOf encC 3 w q c (l.take n) := by
  have e : l = l.take n ++ l.drop n := (List.take_append_drop n l).symm
  have hl : (l.take n).length = n := by simp; omega
  refine ⟨fun hq => by have := h.1 hq; omega, by have := h.2.1; omega, h.2.2.1, fun h0 => ?_⟩
  obtain ⟨b, off, hq, hb, hA⟩ := h.2.2.2 (by omega)
  refine ⟨b, off, hq, hb, fun j u hj => hA j u ?_⟩
  rw [e, flat_app encC 3 (by decide)]
  have hlt := (List.getElem?_eq_some_iff.1 hj).1
  rw [List.getElem?_append_left hlt]
  exact hj
/-- What Scan finds of a beginning of a head and records. -/
theorem torn_no (q : Option Addr) (c : Nat) (n : Nat) (A : List UInt8) (k : Nat) (w : World) (h1 : 1 ≤ n) (h2 : n ≤ 1099511627777) (h : SlOf encB 1 w q c (headB n ++ A)) (hk : k < (headB n).length) :
    Calls Try.prog 24 #[.slice q k c] w fun e w' => e = .returned (.tuple #[.int .i64 0, .slice none 0 0, .int .i64 0, .int .i64 31]) ∧ Below w.heap.size w w' := by
  have hh := headX
  have hkl : ((headB n ++ A).take k).length = k := by simp; omega
  have hp : SlOf encB 1 w q c ((headB n ++ A).take k) := sl_pre (m := (headB n ++ A).drop k) (by rw [List.take_append_drop]; exact h)
  have h20 : (headB n).length ≤ 20 := by unfold headB; rw [seal_len]; have := vint_len9 n (by omega); simp; omega
  have hs := scan_any q c ((headB n ++ A).take k) w hp (by omega)
  rw [hkl] at hs
  refine hs.mono ?_
  rintro e w' ⟨hR, hB⟩
  refine ⟨?_, hB⟩
  rcases hR with ⟨_, he⟩ | ⟨hn, _⟩
  · exact he
  · rw [head_short h1 h2 hk] at hn; cases hn
theorem torn_yes (q : Option Addr) (c : Nat) (n : Nat) (cs : List Ch) (k : Nat) (w : World) (h1 : 1 ≤ n) (h2 : n ≤ 1099511627777) (hm : ∀ x ∈ cs, MayB x) (h : SlOf encB 1 w q c (headB n ++ encs cs)) (hk : ¬ k < (headB n).length) (hk2 : k ≤ (headB n).length + (encs cs).length) (hl : (encs cs).length ≤ 1000000000000) :
    Calls Try.prog 24 #[.slice q k c] w fun e w' => (∃ q' c', e = .returned (.tuple #[.int .i64 (n : Int), .slice q' (fit cs (k - (headB n).length)) c', .int .i64 (((headB n).length + (encs (cs.take (fit cs (k - (headB n).length)))).length : Nat) : Int), .int .i64 0]) ∧ SlOf encC 3 w' q' c' (cs.take (fit cs (k - (headB n).length)))) ∧ Below w.heap.size w w' := by
  have h20 : (headB n).length ≤ 20 := by unfold headB; rw [seal_len]; have := vint_len9 n (by omega); simp; omega
  have hkl : ((headB n ++ encs cs).take k).length = k := by simp; omega
  have hp : SlOf encB 1 w q c ((headB n ++ encs cs).take k) := sl_pre (m := (headB n ++ encs cs).drop k) (by rw [List.take_append_drop]; exact h)
  have hs := scan_any q c ((headB n ++ encs cs).take k) w hp (by omega)
  have e : (headB n ++ encs cs).take k = headB n ++ (encs cs).take (k - (headB n).length) := by
    rw [List.take_append, List.take_of_length_le (by omega)]
  obtain ⟨r1, r2, r3⟩ := head_read h1 h2 e
  have hsc := scan_take cs (k - (headB n).length) (k + 1) hm (by omega) (by omega)
  have hfl := fit_le cs (k - (headB n).length)
  rw [hkl] at hs
  refine hs.mono ?_
  rintro e' w' ⟨hR, hB⟩
  refine ⟨?_, hB⟩
  rcases hR with ⟨hn, _⟩ | ⟨_, q', c', a, ha, he, ho⟩
  · rw [r1] at hn; cases hn
  · rw [r3] at ha
    subst ha
    rw [hkl, r2, drop_pre e, hsc] at he
    rw [hkl, drop_pre e, hsc] at ho
    simp only [List.length_take, Nat.min_eq_left hfl] at he ho
    exact ⟨q', c', he, ho.ls⟩
set_option maxHeartbeats 400000 in
set_option maxRecDepth 100000 in
theorem torn_bad (q : Option Addr) (cp : Nat) (cs : List Ch) (next cut : Int) (w : World) (h : SlOf encC 3 w q cp cs) (hn : cs.length ≤ 100000000) (hb : ¬ ((1 ≤ next ∧ next ≤ 1099511627777) ∧ ∀ c ∈ cs, MayB c)) :
    Calls Try.prog 7 #[.slice q cs.length cp, .int .i64 next, .int .i64 cut] w fun e w' => e = .returned (.bool true) ∧ Below w.heap.size w w' := by
  have hf := fixed_any w
  have hen := fun (W : World) (hW : SlOf encC 3 W q cp cs) => encode_any q cp cs W hW (by omega)
  have HS := hide h
  by_cases hx : 1 ≤ next ∧ next ≤ 1099511627777
  · have hnm : ¬ ∀ c ∈ cs, MayB c := fun hm => hb ⟨hx, hm⟩
    obtain ⟨n, rfl⟩ := Int.eq_ofNat_of_zero_le (show 0 ≤ next by omega)
    have hh := fun W : World => head_yes n (by omega) (by omega) W
    clear h hb
    go_enter Try.func7, Try.ntmps7
    go_wp2_with (first
      | (go_at_call 9; refine hf.mono ?_; rintro e w1 ⟨rfl, b1⟩; have B1 := hide b1; have S1 := hide ((unhide HS).below b1); clear b1)
      | (go_at_call 12; refine (hh _).mono ?_; rintro e w2 ⟨⟨q2, c2, rfl, o2⟩, b2⟩; have S2 := hide ((unhide S1).below b2); have B2 := hide ((unhide B1).trans (b2.mono (unhide B1).size)); clear b2 o2)
      | (go_at_call 10; refine (hen _ (unhide S2)).mono ?_; rintro e w3 ⟨hE, b3⟩; rcases hE with ⟨hn, _⟩ | ⟨_, rfl⟩; exact absurd hn hnm; have B3 := hide ((unhide B2).trans (b3.mono (unhide B2).size)); clear b3))
    go_ret
    exact ⟨rfl, unhide B3⟩
  · have hh := fun W : World => head_no next hx W
    clear h hb hx
    go_enter Try.func7, Try.ntmps7
    go_wp2_with (first
      | (go_at_call 9; refine hf.mono ?_; rintro e w1 ⟨rfl, b1⟩; have B1 := hide b1; have S1 := hide ((unhide HS).below b1); clear b1)
      | (go_at_call 12; refine (hh _).mono ?_; rintro e w2 ⟨rfl, hw2⟩; obtain rfl := hw2.symm)
      | (go_at_call 10; refine (hen _ (unhide S1)).mono ?_; rintro e w3 ⟨hE, b3⟩; have B3 := hide ((unhide B1).trans (b3.mono (unhide B1).size)); clear b3; rcases hE with ⟨_, q3, c3, rfl, _⟩ | ⟨_, rfl⟩))
    all_goals
      go_wp2
      go_ret
      exact ⟨rfl, unhide B3⟩
end Go.Proofs.Ytalicnifjgcldaa
