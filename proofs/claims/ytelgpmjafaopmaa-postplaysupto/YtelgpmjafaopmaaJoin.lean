/- post.join. -/
import Derived.Test.YtelgpmjafaopmaaJoinPlain
namespace Go.Proofs.Ytelgpmjafaopmaa
open Go.RowKit Go.Sort Go.Shelf

theorem makeP (n : Nat) (h : n * 16 ≤ 140737488355328) : ∃ cur : Array Value, cur.size = n * 2 ∧ ∀ W : World, (Instr.makeSlice 28 (.int .i64 0) (.int .i64 (n : Int))).run Try.prog W = .ok (.slice (some ⟨W.heap.size, 0, none⟩) 0 n) (W.alloc (.cells cur 43)) := by
  obtain ⟨i0, hi, hz0, hz1, hz2⟩ := info_parts Try.info43
  refine ⟨madeCells (Value.cells (.agg #[.int .i64 0, .bool false])) (n * i0.size), by rw [size_madeCells, hz1], fun W => ?_⟩
  have := run_make (P := Try.prog) W 28 43 i0 _ Try.underlying28 hi hz0 .i64 .i64 0 (n : Int) (Int.le_refl _) (by omega) (by rw [hz2]; omega) (by omega)
  simpa only [Int.toNat_zero, Int.toNat_natCast] using this
theorem ownP_made {B : Nat} {w : World} {n : Nat} {cur : Array Value} (hB : B ≤ w.heap.size) (hn : n ≤ maxLen) (hs : cur.size = n * 2) : OwnK encP 43 2 B (w.alloc (.cells cur 43)) (some ⟨w.heap.size, 0, none⟩) n [] := by
  have : (flatK encP 2 ([] : List Pt).toArray).toList = [] := by simp [flatK]
  unfold OwnK; rw [this]; exact World.ownsRow_made w cur n hB hn hs
theorem compareB (x y : Pt) (w : World) : Calls Try.prog 43 #[.agg #[.int .i64 x.1, .bool x.2], .agg #[.int .i64 y.1, .bool y.2]] w fun e w' => e = .returned (.int .i64 (cmpP x y)) ∧ Below w.heap.size w w' :=
  (compareP x y w).mono fun e w' ⟨he, q, os, hw⟩ => ⟨he, by rw [hw]; exact below_grown_any (Below.refl _ _) (Nat.le_refl _) _ _⟩
/-- What join answers. -/
def Joined (B : Nat) (w : World) (q : Option Addr) (l m : List Pt) (e : Ending) (w' : World) : Prop :=
  ∃ q' cap', e = .returned (.slice q' (ris (l ++ m)).length cap') ∧ OwnK encP 43 2 B w' q' cap' (ris (l ++ m)) ∧ Below B w w' ∧ Stays w w' q q'
theorem stays_refl (w : World) (q : Option Addr) : Stays w w q q := ⟨⟨rfl, rfl, rfl, Nat.le_refl _, fun _ _ _ => rfl⟩, Or.inl rfl⟩
theorem grown_none {a b : World} (h : a.grownBy b none) (r : Option Nat) : a.grownBy b r := ⟨h.os, h.tape, h.output, h.size, fun k hk _ => h.block k hk (by simp)⟩
theorem stays_pre {a b c : World} {q q' : Option Addr} (h : Below a.heap.size a b) (h' : Stays b c q q') : Stays a c q q' := by
  refine ⟨grown_trans (grown_below h _) h'.1, ?_⟩
  rcases h'.2 with e | ⟨g, e⟩
  · exact Or.inl e
  · refine Or.inr ⟨grown_trans (grown_below h _) g, ?_⟩
    rcases e with e | ⟨g', e, hg⟩
    · exact Or.inl e
    · exact Or.inr ⟨g', e, Nat.le_trans h.size hg⟩
theorem stays_new {a b : World} {q q' : Option Addr} (h : Below a.heap.size a b) (e : q' = none ∨ ∃ g', q' = some ⟨g', 0, none⟩ ∧ a.heap.size ≤ g') : Stays a b q q' := ⟨grown_below h _, Or.inr ⟨grown_below h _, e⟩⟩

set_option maxHeartbeats 2000000 in
theorem join_none (B : Nat) (q : Option Addr) (cap : Nat) (l : List Pt) (p : Option Addr) (c : Nat) (w : World) (h : OwnK encP 43 2 B w q cap l) (hst : Str l) :
    Calls Try.prog 38 #[.slice q l.length cap, .slice p 0 c] w fun e w' => Joined B w q l [] e w' := by
  have e1 : ris (l ++ []) = l := by rw [List.append_nil]; exact ris_str hst
  have H := hide h
  unfold Joined
  rw [e1]
  clear h hst e1
  go_enter Try.func38, Try.ntmps38
  go_wp2
  go_ret
  exact ⟨q, cap, rfl, unhide H, Below.refl _ _, stays_refl _ _⟩
set_option maxHeartbeats 2000000 in
set_option maxRecDepth 100000 in
theorem join_empty (B : Nat) (q : Option Addr) (cap : Nat) (p : Option Addr) (c : Nat) (m : List Pt) (w : World) (h : OwnK encP 43 2 B w q cap []) (hs : SlOf encP 2 w p c m) (hsm : Str m) (hB : B ≤ w.heap.size) (h0 : 0 < m.length) (hb : m.length * 16 ≤ 140737488355328) :
    Calls Try.prog 38 #[.slice q 0 cap, .slice p m.length c] w fun e w' => Joined B w q [] m e w' := by
  have mixed : Try.prog.follows .mixedOrders = true := by kernel_rfl
  have e1 : ris ([] ++ m) = m := ris_str hsm
  have H := hide h
  have HS := hide hs
  have hm0 : ((m.length : Int) == 0) = false := by rw [beq_eq_false_iff_ne]; omega
  unfold Joined
  rw [e1]
  clear h hs hsm e1
  go_enter Try.func38, Try.ntmps38
  go_wp2
  refine wp_region_quiet_below (by assumption) (by kernel_rfl) ?_
  repeat (go_big_quiet_step (fail))
  refine wpQuiet_nil ?_
  intro w1 hw'
  obtain ⟨⟨dq, osq⟩, hw''⟩ := hw'
  have b1 := below_regrown w dq osq
  dsimp only at hw''
  rw [← hw''] at b1
  have HB1 := hide b1
  have hsz := b1.size
  clear hw'' b1
  go_wp2_with (at_builtin; refine wpList_appK rfl _ _ rfl B q cap [] p c m 0 m.length m.length rfl rfl (by simp) rfl rfl ((unhide H).below (unhide HB1)) ((unhide HS).below (unhide HB1)).src (by unfold maxLen; omega) (by omega) (by omega) ?_; intro q2 cap2 w2 ho2 hb2 hs2; have HO2 := hide ho2; have HB2 := hide hb2; have HS2 := hide hs2; clear ho2 hb2 hs2)
  go_ret
  exact ⟨q2, cap2, rfl, unhide HO2, ((unhide HB1).mono hB).trans (unhide HB2), stays_pre (unhide HB1) (unhide HS2)⟩
set_option maxHeartbeats 2000000 in
set_option maxRecDepth 100000 in
theorem join_behind (B : Nat) (q : Option Addr) (cap : Nat) (l : List Pt) (p : Option Addr) (c : Nat) (m : List Pt) (w : World) (h : OwnK encP 43 2 B w q cap l) (hs : SlOf encP 2 w p c m) (hst : Str l) (hsm : Str m) (hB : B ≤ w.heap.size) (hb : (l.length + m.length) * 16 ≤ 140737488355328)
    {n1 : Nat} (hn1 : l.length = n1 + 1) (h0 : 0 < m.length) {x y : Pt} (hx : l[n1]? = some x) (hy : m[0]? = some y) (hxy : cmpP x y < 0) :
    Calls Try.prog 38 #[.slice q l.length cap, .slice p m.length c] w fun e w' => Joined B w q l m e w' := by
  have mixed : Try.prog.follows .mixedOrders = true := by kernel_rfl
  have e43 : ∀ args w, (callFunc 43 args).run Try.prog w = .ok (.enter 43 args) w := enters_of Try.func43 (by kernel_rfl) rfl
  have e1 : ris (l ++ m) = l ++ m := ris_str (Str.app.2 ⟨hst, hsm, fun a ha b hbm => by
    have h1 : a = x ∨ ltP a x := by
      obtain ⟨i, hi, rfl⟩ := List.getElem_of_mem ha
      by_cases e : i = n1
      · subst e; rw [List.getElem?_eq_getElem hi] at hx; exact Or.inl (Option.some.inj hx)
      · exact Or.inr (hst.at (i := i) (j := n1) (by omega) (List.getElem?_eq_getElem hi) hx)
    have h2 : b = y ∨ ltP y b := by
      obtain ⟨i, hi, rfl⟩ := List.getElem_of_mem hbm
      by_cases e : i = 0
      · subst e; rw [List.getElem?_eq_getElem hi] at hy; exact Or.inl (Option.some.inj hy)
      · exact Or.inr (hsm.at (i := 0) (j := i) (by omega) hy (List.getElem?_eq_getElem hi))
    have h3 : ltP x y := hxy
    rcases h1 with rfl | h1 <;> rcases h2 with rfl | h2
    · exact h3
    · exact lt_trans h3 h2
    · exact lt_trans h1 h3
    · exact lt_trans h1 (lt_trans h3 h2)⟩)
  obtain ⟨b, off, hq, _, c0, c1⟩ := postAt h.ls hx
  obtain ⟨b', off', hq', _, d0, d1⟩ := postAt hs hy
  have r0 := cell_regrown c0
  have r1 := cell_regrown c1
  have s0 := cell_regrown d0
  have s1 := cell_regrown d1
  simp only [Nat.zero_mul, Nat.add_zero] at s0 s1
  have hc := fun W => compareB x y W
  have H := hide h
  have HS := hide hs
  have hm0 : ((m.length : Int) == 0) = false := by rw [beq_eq_false_iff_ne]; omega
  have hl0 : ((l.length : Int) == 0) = false := by rw [beq_eq_false_iff_ne]; omega
  have k0 : (0 : Int) ≤ (n1 : Int) := by omega
  have k1 : (n1 : Int) < (l.length : Int) := by omega
  have k2 : (0 : Int) < (m.length : Int) := by omega
  have hw : IntKind.i64.wrap ((l.length : Int) - 1) = (n1 : Int) := by rw [show (l.length : Int) - 1 = (n1 : Int) by omega]; exact wrap_nat n1 (by omega)
  have HN := hide hn1
  unfold Joined
  rw [e1, List.length_append]
  subst hq hq'
  clear h hs hst hsm e1 c0 c1 d0 d1 hx hy hn1
  go_enter Try.func38, Try.ntmps38
  go_wp2
  refine wp_region_quiet_below (by assumption) (by kernel_rfl) ?_
  repeat (go_big_quiet_step (first | (go_at_fn 43; refine Calls.regrown_of (hc _))))
  refine wpQuiet_nil ?_
  intro w1 hw'
  obtain ⟨⟨dq, osq⟩, hw''⟩ := hw'
  have b1 := below_regrown w dq osq
  dsimp only at hw''
  rw [← hw''] at b1
  have HB1 := hide b1
  have hsz := b1.size
  clear hw'' b1 r0 r1 s0 s1 hw
  go_wp2_with (at_builtin; refine wpList_appK rfl _ _ rfl B _ cap l _ c m l.length m.length (l.length + m.length) rfl rfl rfl rfl rfl ((unhide H).below (unhide HB1)) ((unhide HS).below (unhide HB1)).src (by unfold maxLen; omega) (by omega) (by omega) ?_; intro q2 cap2 w2 ho2 hb2 hs2; have HO2 := hide ho2; have HB2 := hide hb2; have HS2 := hide hs2; clear ho2 hb2 hs2)
  go_ret
  exact ⟨q2, cap2, rfl, unhide HO2, ((unhide HB1).mono hB).trans (unhide HB2), stays_pre (unhide HB1) (unhide HS2)⟩
end Go.Proofs.Ytelgpmjafaopmaa
