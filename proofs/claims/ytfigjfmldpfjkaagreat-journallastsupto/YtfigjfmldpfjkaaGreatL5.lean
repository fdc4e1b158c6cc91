/- The statement's begins. -/
import Derived.Test.YtfigjfmldpfjkaaGreatL4
namespace Go.Proofs.YtfigjfmldpfjkaaGreat
open Go.RowKit Go.Sort Go.Shelf

theorem flat_len {α : Type} [Inhabited α] (enc : α → List Value) (k : Nat) (l : List α) : (flatK enc k l.toArray).toList.length = l.length * k := by simp [flatK]
theorem flat_pre {α : Type} [Inhabited α] (enc : α → List Value) {k : Nat} (hk : 0 < k) {l m : List α} {j : Nat} {u : Value} (h : (flatK enc k l.toArray).toList[j]? = some u) : (flatK enc k (l ++ m).toArray).toList[j]? = some u := by
  rw [flat_app enc k hk, List.getElem?_append_left (List.getElem?_eq_some_iff.1 h).1]
  exact h
theorem sl_takeG {α : Type} [Inhabited α] {enc : α → List Value} {k : Nat} (hk : 0 < k) {w : World} {q : Option Addr} {c : Nat} {l : List α} (h : SlOf enc k w q c l) (n : Nat) : SlOf enc k w q c (l.take n) := by
  refine ⟨fun hq => by have := h.1 hq; exact ⟨by rw [List.length_take]; omega, this.2⟩, by have := h.2.1; rw [List.length_take]; omega, h.2.2.1, fun h0 => ?_⟩
  obtain ⟨b, off, hq, hb, hA⟩ := h.2.2.2 (by simp at h0; omega)
  refine ⟨b, off, hq, hb, fun j u hj => hA j u ?_⟩
  have := flat_pre enc hk (m := l.drop n) hj
  rw [List.take_append_drop] at this
  exact this
def cutC (q : Option Addr) (cap a : Nat) : Option Addr := if cap = a then q else Option.map (fun x => x.add (a * 3)) q
theorem cutC_ne (q : Option Addr) {cap a : Nat} (h : ¬ cap = a) : cutC q cap a = Option.map (fun x => x.add (a * 3)) q := if_neg h
theorem cutC_same (q : Option Addr) (a : Nat) : cutC q a a = q := if_pos rfl
theorem slice_lC (q : Option Addr) (c N L : Nat) (h1 : L ≤ N) (h2 : N ≤ c) (W : World) : (Instr.sliceAt 35 (.slice q N c) (some (.int .i64 (L : Int))) none none).run Tryz.prog W = .ok (.slice (cutC q c L) (N - L) (c - L)) W := by
  have u := Tryz.underlying35
  have g1 : (L : Int) ≤ (N : Int) := by omega
  have g2 : (N : Int) ≤ (c : Int) := by omega
  by_cases hc : c = L
  · subst hc
    rw [cutC_same]
    go_simp
  · rw [cutC_ne q hc]
    go_simp
theorem slice_hC (q : Option Addr) (c N G : Nat) (h2 : G ≤ c) (W : World) : (Instr.sliceAt 35 (.slice q N c) none (some (.int .i64 (G : Int))) none).run Tryz.prog W = .ok (.slice q G c) W := by
  have u := Tryz.underlying35
  have g2 : (G : Int) ≤ (c : Int) := by omega
  have g3 : (0 : Int) ≤ (G : Int) := by omega
  go_simp
theorem cut_slC {w : World} {q : Option Addr} {cap : Nat} {l : List Ch} (h : SlOf encC 3 w q cap l) (a : Nat) (ha : a ≤ l.length) : SlOf encC 3 w (cutC q cap a) (cap - a) (l.drop a) := by
  refine ⟨fun hq => ?_, by have := h.2.1; rw [List.length_drop]; omega, by have := h.2.2.1; omega, fun hp => ?_⟩
  · have hq0 : q = none := by
      unfold cutC at hq
      split at hq
      · exact hq
      · simpa using hq
    have := h.1 hq0
    exact ⟨by rw [List.length_drop]; omega, by omega⟩
  · have hp' : a < l.length := by rw [List.length_drop] at hp; omega
    obtain ⟨b, off, hq, hb, hA⟩ := h.2.2.2 (by omega)
    have hne : ¬ cap = a := by have := h.2.1; omega
    refine ⟨b, off + a * 3, by rw [cutC_ne q hne, hq]; exact congrArg some (add_plain b off (a * 3)), hb, fun j u hj => ?_⟩
    have h9 := hA (a * 3 + j) u (by
      have e : l = l.take a ++ l.drop a := (List.take_append_drop a l).symm
      rw [e, flat_app encC 3 (by decide), List.getElem?_append_right (by rw [flat_len, List.length_take]; omega), flat_len, List.length_take, Nat.min_eq_left ha, Nat.add_sub_cancel_left]
      exact hj)
    rw [← Nat.add_assoc] at h9
    exact h9
set_option maxHeartbeats 2000000 in
set_option maxRecDepth 100000 in
theorem begins_yes (A M : List Ch) (k : Nat) (q q1 q2 : Option Addr) (c c1 c2 : Nat) (w : World) (h : SlOf encC 3 w q c (A ++ M.take k)) (h1 : SlOf encC 3 w q1 c1 A) (h2 : SlOf encC 3 w q2 c2 M) (hl : A.length + M.length ≤ 1000000000) :
    Calls Tryz.prog 17 #[.slice q (A ++ M.take k).length c, .slice q1 A.length c1, .slice q2 M.length c2] w fun e w' => e = .returned (.bool true) ∧ Below w.heap.size w w' := by
  have mixed : Tryz.prog.follows .mixedOrders = true := by kernel_rfl
  have e18 : ∀ args w, (callFunc 18 args).run Tryz.prog w = .ok (.enter 18 args) w := enters_of Tryz.func18 (by kernel_rfl) rfl
  obtain ⟨La, hLa⟩ : ∃ La, A.length = La := ⟨_, rfl⟩
  obtain ⟨Lm, hLm⟩ : ∃ Lm, M.length = Lm := ⟨_, rfl⟩
  obtain ⟨D, hD⟩ : ∃ D, (M.take k).length = D := ⟨_, rfl⟩
  have hDm : D ≤ Lm := by rw [← hD, ← hLm, List.length_take]; omega
  obtain ⟨Ll, hLl⟩ : ∃ Ll, (A ++ M.take k).length = Ll := ⟨_, rfl⟩
  have hLs : Ll = La + D := by rw [← hLl, List.length_append, hLa, hD]
  obtain ⟨S, hS⟩ : ∃ S, La + Lm = S := ⟨_, rfl⟩
  have hcap := h.2.1
  have hcap2 := h2.2.1
  rw [hLl] at hcap
  rw [hLm] at hcap2
  have hsa1 : ∀ W, Below w.heap.size w W → Calls Tryz.prog 18 #[.slice q La c, .slice q1 La c1] W fun e w' => e = .returned (.bool true) ∧ Below W.heap.size W w' := fun W hW => by
    have h9 := sameC_any q q1 c c1 A A W (by have := sl_takeG (by decide) (h.below hW) A.length; rw [List.take_left] at this; exact this) (h1.below hW) (by omega) (by omega)
    rw [decide_eq_true rfl, hLa] at h9
    exact h9
  have hsa2 : ∀ W, Below w.heap.size w W → Calls Tryz.prog 18 #[.slice (cutC q c La) D (c - La), .slice q2 D c2] W fun e w' => e = .returned (.bool true) ∧ Below W.heap.size W w' := fun W hW => by
    have h8 : SlOf encC 3 W (cutC q c La) (c - La) (M.take k) := by have := cut_slC (h.below hW) La (by omega); rw [← hLa, List.drop_left] at this; rw [← hLa]; exact this
    have h7 : SlOf encC 3 W q2 c2 (M.take k) := sl_takeG (by decide) (h2.below hW) k
    have h9 := sameC_any _ q2 _ c2 (M.take k) (M.take k) W h8 h7 (by omega) (by omega)
    rw [decide_eq_true rfl, hD] at h9
    exact h9
  have hs1 := slice_hC q c Ll La (by omega)
  have hs2 := slice_lC q c Ll La (by omega) (by omega)
  rw [show Ll - La = D by omega] at hs2
  have hs3 := slice_hC q2 c2 Lm D (by omega)
  have i1 : (La : Int) + (Lm : Int) = (S : Int) := by omega
  have i2 : IntKind.i64.wrap (S : Int) = (S : Int) := wrap_nat _ (by omega)
  have i3 : (Ll : Int) - (La : Int) = (D : Int) := by omega
  have i4 : IntKind.i64.wrap (D : Int) = (D : Int) := wrap_nat _ (by omega)
  have j1 : ¬ (Ll : Int) < (La : Int) := by omega
  have j2 : ¬ (S : Int) < (Ll : Int) := by omega
  rw [hLa, hLm, hLl]
  have i5 : La ≤ c := by omega
  have i6 : (La : Int) ≤ (c : Int) := by omega
  have i7 : (0 : Int) ≤ (La : Int) := by omega
  have HS2 := hide hsa2
  have hsa1' := hsa1 w (Below.refl _ _)
  clear h h1 h2 hLa hLm hD hLl hLs hS hl hDm hcap hcap2 hsa1 hsa2
  go_enter Tryz.func17, Tryz.ntmps17
  go_wp2_with (go_at_call 18; refine hsa1'.mono ?_; rintro e w1 ⟨rfl, b1⟩; have B1 := hide b1; clear b1)
  have hq2 := fun (d : Nat) (os : Array Obj) => unhide HS2 (grow (redrawn w1 d) os) (below_sub (unhide B1) (below_regrown w1 d os))
  have HB1 := hide (unhide B1)
  refine wp_region_quiet_below (by assumption) (by kernel_rfl) ?_
  repeat (go_big_quiet_step ((go_at_fn 18; refine Calls.regrown_of (hq2 _ _))))
  refine wpQuiet_nil ?_
  intro _ hw'
  obtain ⟨⟨dq, osq⟩, hw''⟩ := hw'
  subst hw''
  go_wp2
  go_ret
  exact ⟨rfl, below_sub (unhide B1) (below_regrown _ _ _)⟩
end Go.Proofs.YtfigjfmldpfjkaaGreat
