/- The queue's calls: New, Put, Take. -/
import Derived.Test.YtfenkiplofnolaaQI
namespace Go.Proofs.Ytfenkiplofnolaa
open Go.RowKit Go.Sort

set_option maxHeartbeats 1000000 in
set_option maxRecDepth 100000 in
theorem newI (r : Int) (w : World) :
    Calls Try.prog 8 #[.int .i64 r] w fun e w' => e = .returned (.pointer (some ⟨w.heap.size, 0, none⟩)) ∧ QIn encI 3 1 51 w' w.heap.size none 0 (roomN r) [] ∧ Below w.heap.size w w' := by
  go_enter Try.func8, Try.ntmps8
  go_wp2
  go_ret
  have hr : (min (max r 1) 16 : Int) = ((roomN r : Nat) : Int) := by unfold roomN; omega
  have hl := roomN_le r
  refine ⟨rfl, ⟨?_, OwnK.nil _ _, Nat.zero_le _, hl.1, hl.2⟩, (Below.refl _ _).alloc (Nat.le_refl _) _⟩
  rw [hr]
  exact box_nw _ _
set_option maxHeartbeats 2000000 in
set_option maxRecDepth 100000 in
theorem putI (L : Nat) (q : Option Addr) (cap m : Nat) (l : List Int) (p : Option Addr) (c : Nat) (xs : List Int) (w : World) (h : QIn encI 3 1 51 w L q cap m l) (hs : SlOf encI 1 w p c xs) (hx : xs.length ≤ 100000000000000) :
    Calls Try.prog 11 #[.pointer (some ⟨L, 0, none⟩), .slice p xs.length c] w fun e w' => e = .returned (.int .i64 ((min xs.length (m - l.length) : Nat) : Int)) ∧ ∃ q' cap', QIn encI 3 1 51 w' L q' cap' m (l ++ xs.take (m - l.length)) ∧ Mv w w' L q q' := by
  obtain ⟨hb, ho, hlm, hm1, hm16⟩ := h
  obtain ⟨d, hd⟩ : ∃ d, l.length + d = m := ⟨m - l.length, by omega⟩
  have hdd : m - l.length = d := by omega
  rw [hdd]
  obtain ⟨n, hn⟩ : ∃ n, min xs.length d = n := ⟨_, rfl⟩
  have hnx : n ≤ xs.length := by omega
  have htk : xs.take d = xs.take n := by
    by_cases hxd : xs.length ≤ d
    · rw [List.take_of_length_le hxd, List.take_of_length_le (by omega)]
    · rw [show n = d by omega]
  rw [hn, htk]
  have htl : (xs.take n).length = n := by rw [List.length_take]; omega
  have hmin : min (xs.length : Int) (d : Int) = (n : Int) := by omega
  have hrm := roomQ L _ 51 w l.length m d hb hd hm16
  obtain ⟨N, hN⟩ : ∃ N, l.length + n = N := ⟨_, rfl⟩
  have hNi : (l.length : Int) + (n : Int) = (N : Int) := by omega
  have hN1 : IntKind.i64.wrap (N : Int) = (N : Int) := wrap_nat N (by omega)
  have hN16 : N ≤ 16 := by omega
  have hnc : (n : Int) ≤ (c : Int) := by have := hs.2.1; omega
  have hn0 : (0 : Int) ≤ (n : Int) := by omega
  have hne : ∀ i, q.map (·.block) = some i → i ≠ L := fun i hi e => by
    cases q with
    | none => simp at hi
    | some a =>
      obtain ⟨cur, hb2, _, _, _⟩ := ho.typ
      simp at hi
      rw [hi, e, hb] at hb2
      injection hb2 with hb2
      injection hb2 with h1 h2
      exact absurd h2 (by decide)
  obtain ⟨c0, c1, c2, f0, f1, f2⟩ := cells3 hb
  have hst : ∀ (W w5 : World), W.heap = w.heap → W.grownBy w5 (q.map (·.block)) → w5.heap[L]? = some (.cells #[.int .i64 (l.length : Int), .int .i64 (m : Int), .slice q l.length cap] 51 (0, 0)) := fun W w5 hW hg => by
    rw [hg.block L (by rw [hW]; exact (Array.getElem?_eq_some_iff.1 hb).1) (fun e => hne L e.symm rfl), hW]
    exact hb
  have HO := hide ho
  have HS := hide (take_sl (by decide) hs n hnx).src
  have HB := hide hb
  have HST := hide hst
  have HTL := hide htl
  have HNE := hide hne
  have HHN := hide hN
  have HDM := hide hd
  clear hb ho hs hd hdd hn htk htl hst hne hN
  go_enter Try.func11, Try.ntmps11
  go_wp2_with (go_at_call 21; refine hrm.mono ?_; rintro e w1 ⟨rfl, rfl⟩)
  go_region_law (first
      | (refine step_appK rowI (by rfl) _ _ (by rfl) 0 q cap l p c (xs.take n) l.length n N rfl (unhide HTL) (unhide HHN) (by rfl) (by rfl) (own_heap (by rfl) (unhide HO)) (src_heap (by rfl) (unhide HS)) (by unfold maxLen; omega) (by omega) (Nat.zero_le _) ?_; intro q5 c5 w5 o5 b5 s5; have hL5 := unhide HST _ w5 (by rfl) s5.1; obtain ⟨k0, k1, k2, e0, e1, e2⟩ := cells3 hL5; have O5 := hide o5; have S5 := hide s5; have K5 := hide hL5; clear o5 b5 s5 hL5))
  all_goals
    go_wp2
    go_ret
    have hN := unhide HHN
    have hd := unhide HDM
    have hr := put_end (tq := 51) (w := w) (N := N) (by decide) (by first | exact grown_drew (grown_drew (unhide S5).1) | exact grown_drew (grown_drew (grown_drew (unhide S5).1)) | exact grown_drew (unhide S5).1 | exact (unhide S5).1) (unhide S5).q (unhide O5) (by rw [List.length_append, unhide HTL]; exact hN) (unhide K5) ⟨by omega, hm1, hm16⟩
    exact ⟨rfl, q5, c5, hr⟩
set_option maxHeartbeats 2000000 in
set_option maxRecDepth 100000 in
theorem takeI (L : Nat) (q : Option Addr) (cap m : Nat) (l : List Int) (n : Int) (w : World) (h : QIn encI 3 1 51 w L q cap m l) :
    Calls Try.prog 13 #[.pointer (some ⟨L, 0, none⟩), .int .i64 n] w fun e w' => (∃ q' c', e = .returned (.slice q' (takeN n l.length) c') ∧ OwnK encI 3 1 w.heap.size w' q' c' (l.take (takeN n l.length))) ∧ QIn encI 3 1 51 w' L q cap m (l.drop (takeN n l.length)) ∧ Mv w w' L q q := by
  obtain ⟨hb, ho, hlm, hm1, hm16⟩ := h
  have hle := takeN_le n l.length
  have hmin : min (max n 0) (l.length : Int) = ((takeN n l.length : Nat) : Int) := by unfold takeN; omega
  generalize takeN n l.length = c at hle hmin ⊢
  obtain ⟨N, hN⟩ : ∃ N, l.length - c = N := ⟨_, rfl⟩
  have hNi : (l.length : Int) - (c : Int) = (N : Int) := by omega
  have hN1 : IntKind.i64.wrap (N : Int) = (N : Int) := wrap_nat N (by omega)
  have hc0 : (0 : Int) ≤ (c : Int) := by omega
  have hlc := ho.ls.2.1
  have hcc : (c : Int) ≤ (cap : Int) := by omega
  have htl : (l.take c).length = c := by rw [List.length_take]; omega
  have hlen := lenQ L _ _ 51 w _ hb
  have hcl := cloneI q cap (l.take c) (by rw [htl]; omega) w (take_sl (by decide) ho.ls c hle)
  rw [htl] at hcl
  have hde := fun (W : World) (hB : Below w.heap.size w W) => delI q cap l c hle (by omega) W (ho.below hB)
  rw [hN] at hde
  have hne := ne_of_types (tq := 51) (by decide) ho hb
  obtain ⟨c0, c1, c2, f0, f1, f2⟩ := cells3 hb
  have hk1 : ∀ W, Below w.heap.size w W → W.heap[L]? = some (.cells #[.int .i64 (l.length : Int), .int .i64 (m : Int), .slice q l.length cap] 51 (0, 0)) := fun W hB => (hB.block L (Array.getElem?_eq_some_iff.1 hb).1).trans hb
  have hk2 : ∀ W W', Below w.heap.size w W → W.grownBy W' (q.map (·.block)) → W'.heap[L]? = some (.cells #[.int .i64 (l.length : Int), .int .i64 (m : Int), .slice q l.length cap] 51 (0, 0)) := fun W W' hB hg => by
    rw [hg.block L (Nat.lt_of_lt_of_le (Array.getElem?_eq_some_iff.1 hb).1 hB.size) (fun e => by
      cases q with
      | none => simp at e
      | some a => simp at e; exact hne a rfl e.symm)]
    exact hk1 W hB
  have hql : ∀ p, q = some p → p.block < w.heap.size := fun p hp => by
    subst hp
    obtain ⟨_, _, _, h4, _⟩ := ho.typ
    exact h4
  have HO := hide ho
  have HB := hide hb
  have HK1 := hide hk1
  have HK2 := hide hk2
  have HDE := hide hde
  have HNE := hide hne
  have HHN := hide hN
  have HQL := hide hql
  have HBL := hide (Array.getElem?_eq_some_iff.1 hb).1
  clear hb ho hk1 hk2 hde hne hN htl hql
  go_enter Try.func13, Try.ntmps13
  go_wp2_with (first
    | (go_at_call 22; refine hlen.mono ?_; rintro e w1 ⟨rfl, hw1⟩; obtain rfl := hw1.symm)
    | (go_at_call 33; refine hcl.mono ?_; rintro e w2 ⟨⟨q2, c2', rfl, o2⟩, b2⟩; have hL2 := unhide HK1 w2 b2; obtain ⟨k0, k1, k2, e0, e1, e2⟩ := cells3 hL2; have O2 := hide o2; have B2 := hide b2; clear o2 b2 hL2)
    | (go_at_call 34; refine (unhide HDE w2 (unhide B2)).mono ?_; rintro e w3 ⟨rfl, o3, g3⟩; have hL3 := unhide HK2 w2 w3 (unhide B2) g3; obtain ⟨m0, m1, m2, j0, j1, j2⟩ := cells3 hL3; have O3 := hide o3; have G3 := hide g3; have K3 := hide hL3; clear o3 g3 hL3))
  go_ret
  have hN := unhide HHN
  have b2 := unhide B2
  have g3 := unhide G3
  have gq : w.grownBy w3 (q.map (·.block)) := ⟨g3.os.trans b2.os, g3.tape.trans b2.tape, g3.output.trans b2.output, Nat.le_trans b2.size g3.size, fun i hi hne => (g3.block i (Nat.lt_of_lt_of_le hi b2.size) hne).trans (b2.block i hi)⟩
  obtain ⟨r1, r2⟩ := put_end (tq := 51) (w := w) (N := N) (by decide) gq (Or.inl rfl) (unhide O3) (by rw [List.length_drop]; exact hN) (unhide K3) ⟨by omega, hm1, hm16⟩
  obtain ⟨_, h2, _⟩ := two_cells (N := N) (s' := .slice q N cap) (unhide K3)
  refine ⟨⟨q2, c2', rfl, ?_⟩, r1, r2⟩
  refine (unhide O2).kept (fun p hp => ?_) (fun p hp => ?_)
  · subst hp
    obtain ⟨cur, hbp, hle2, hlt2, _⟩ := (unhide O2).typ
    rw [h2 p.block (by have := unhide HBL; omega)]
    refine g3.block p.block hlt2 (fun e => ?_)
    cases q with
    | none => simp at e
    | some a =>
      simp at e
      have := unhide HQL a rfl
      omega
  · subst hp
    obtain ⟨_, _, h4, _, _⟩ := (unhide O2).typ
    exact h4
end Go.Proofs.Ytfenkiplofnolaa
