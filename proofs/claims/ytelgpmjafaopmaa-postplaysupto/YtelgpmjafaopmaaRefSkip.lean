/- The reference's cursor: Skip. -/
import Derived.Test.YtelgpmjafaopmaaRefCur
namespace Go.Proofs.Ytelgpmjafaopmaa
open Go.RowKit Go.Sort Go.Shelf

/-- The posts do not lie where a cursor lies. -/
theorem RCur.apart {w : World} {C : Nat} {q q' : Option Addr} {n cap cap' k : Nat} {l : List Pt} (h : RCur w C q n cap k) (hs : SlOf encP 2 w q' cap' l) {b off : Nat} (hq : q' = some ⟨b, off, none⟩) (h0 : 0 < l.length) : b ≠ C := by
  obtain ⟨x, hx, _⟩ := get_at h0
  obtain ⟨b', off', hq', _, c0, c1⟩ := postAt hs hx
  rw [hq] at hq'
  obtain ⟨rfl, rfl⟩ : b = b' ∧ off = off' := by injection hq' with h1; injection h1 with h1 h2; exact ⟨h1, h2⟩
  rintro rfl
  unfold RCur at h
  unfold World.cell? at c0 c1
  simp [h] at c0 c1
  match off, c0, c1 with
  | 0, c0, _ => simp at c0
  | 1, _, c1 => simp at c1
  | o + 2, c0, _ => simp at c0
theorem cell_blk {w w' : World} {b o : Nat} (h : w'.heap[b]? = w.heap[b]?) : w'.cell? ⟨b, o, none⟩ = w.cell? ⟨b, o, none⟩ := by
  unfold World.cell?; simp only [h]
theorem RCur.keeps {w w' : World} {C : Nat} {q q' : Option Addr} {n cap cap' k : Nat} {l : List Pt} (h : RCur w C q n cap k) (hs : SlOf encP 2 w q' cap' l) (hg : w.grownBy w' (some C)) : SlOf encP 2 w' q' cap' l := by
  refine ⟨hs.1, hs.2.1, hs.2.2.1, fun h0 => ?_⟩
  obtain ⟨b, off, hq, hb, hA⟩ := hs.2.2.2 h0
  have hne := h.apart hs hq h0
  exact ⟨b, off, hq, Nat.lt_of_lt_of_le hb hg.size, fun j u hj => (cell_blk (hg.block b hb (by simp [hne]))).trans (hA j u hj)⟩
set_option maxHeartbeats 2000000 in
set_option maxRecDepth 100000 in
theorem skipR (C : Nat) (q : Option Addr) (cap k : Nat) (l : List Pt) (id : Int) (w : World) (h : RCur w C q l.length cap k) (hs : SlOf encP 2 w q cap l) (hk : k ≤ l.length) (hn : l.length ≤ 100000000000000) :
    Calls Try.prog 30 #[.pointer (some ⟨C, 0, none⟩), .int .i64 id] w fun e w' => e = .returned (.bool (decide (k + cnt (ltD id) (l.drop k) < l.length))) ∧ RCur w' C q l.length cap (k + cnt (ltD id) (l.drop k)) ∧ w.grownBy w' (some C) := by
  have mixed : Try.prog.follows .mixedOrders = true := by kernel_rfl
  have a0 : (l.length : Int) ≤ 100000000000000 := by omega
  have HS := hide hs
  have H := hide h
  have hdl : (l.drop k).length = l.length - k := List.length_drop
  clear h hs
  go_enter Try.func30, Try.ntmps30
  go_wp2
  go_loopw [29] (fun _ wr => ∃ i : Nat, k ≤ i ∧ i ≤ l.length ∧ (∀ (t : Nat) (x : Pt), t < i - k → (l.drop k)[t]? = some x → ltD id x = true) ∧ RCur wr C q l.length cap i ∧ w.grownBy wr (some C)) (fun _ wr => l.length - (intOf ((wr.cell? ⟨C, 1, none⟩).getD undef)).toNat)
  case atStart => exact ⟨k, Nat.le_refl _, hk, fun t x ht => absurd ht (by omega), unhide H, grown_below (Below.refl _ _) _⟩
  case round =>
    obtain ⟨i, hki, hil, hpre, hc, hg⟩ := hrel
    have HC := hide hc
    have HG := hide hg
    obtain ⟨c0, c1, f1⟩ := hc.cells
    have hmeas := hide c1
    have r0 := cell_regrown c0
    have r1 := cell_regrown c1
    by_cases hlt : i < l.length
    · obtain ⟨x, hx, _⟩ := get_at hlt
      obtain ⟨b, off, hq, hbs, d0, d1⟩ := postAt ((unhide H).keeps (unhide HS) hg) hx
      have s0 := cell_regrown d0
      have ki0 : (0 : Int) ≤ (i : Int) := by omega
      have ki1 : (i : Int) < (l.length : Int) := by omega
      have kd : decide ((i : Int) < (l.length : Int)) = true := decide_eq_true ki1
      subst hq
      by_cases hxi : x.1 < id
      · have hd : decide (x.1 < id) = true := decide_eq_true hxi
        have HN := hide (show ∀ (t : Nat) (y : Pt), t < i + 1 - k → (l.drop k)[t]? = some y → ltD id y = true from fun t y ht hy => by
          by_cases h : t < i - k
          · exact hpre t y h hy
          · have : k + t = i := by omega
            rw [List.getElem?_drop, this, hx] at hy
            cases hy
            exact hd)
        clear hx hpre hc hg c0 c1 d0 d1
        go_wp2
        refine wp_region_quiet_below (by assumption) (by kernel_rfl) ?_
        repeat (go_big_quiet_step (fail))
        refine wpQuiet_nil ?_
        intro w1 hw'
        obtain ⟨⟨dq, osq⟩, hw''⟩ := hw'
        have b1 := below_regrown wr dq osq
        dsimp only at hw''
        rw [← hw''] at b1
        have HC1 := hide ((unhide HC).below b1)
        have HB1 := hide b1
        obtain ⟨e0, e1, e2⟩ := (unhide HC1).cells
        have wo1 := wrap_one i (by omega)
        clear hw'' b1 r0 r1 s0 f1
        go_wp2
        go_roundw
        case rel => exact ⟨i + 1, by omega, by omega, unhide HN, (show RCur (w1.setCell ⟨C, 1, none⟩ (.int .i64 ((i + 1 : Nat) : Int))) C _ _ _ (i + 1) from (unhide HC1).put (i + 1)), grown_trans (unhide HG) (grown_trans (grown_below (unhide HB1) _) (grown_set _ _ _ _))⟩
        case measure =>
          have hp := ((unhide HC1).put (i + 1)).cells.2.1
          rw [show (w1.setCell ⟨C, 1, none⟩ (.int .i64 ((i : Int) + 1))).cell? ⟨C, 1, none⟩ = some (.int .i64 ((i + 1 : Nat) : Int)) from hp, unhide hmeas]
          simp only [Option.getD_some, intOf]
          omega
      · have hd : decide (x.1 < id) = false := decide_eq_false hxi
        have HE := hide (show cnt (ltD id) (l.drop k) = i - k from cnt_is (by omega) hpre (fun y hy => by
          rw [List.getElem?_drop, show k + (i - k) = i by omega, hx] at hy
          cases hy
          exact hd))
        clear hx hpre hc hg c0 c1 d0 d1
        go_wp2
        refine wp_region_quiet_below (by assumption) (by kernel_rfl) ?_
        repeat (go_big_quiet_step (fail))
        refine wpQuiet_nil ?_
        intro w1 hw'
        obtain ⟨⟨dq, osq⟩, hw''⟩ := hw'
        have b1 := below_regrown wr dq osq
        dsimp only at hw''
        rw [← hw''] at b1
        have HC1 := hide ((unhide HC).below b1)
        have HB1 := hide b1
        obtain ⟨e0, e1, e2⟩ := (unhide HC1).cells
        clear hw'' b1 r0 r1 s0 f1 e2
        go_wp2
        go_region_held3 (fun w' => w'.cell? ⟨C, 0, none⟩ = some (.slice (some ⟨b, off, none⟩) l.length cap) ∧ w'.cell? ⟨C, 1, none⟩ = some (.int .i64 (i : Int))) (go_keep) (fail)
        all_goals
          go_wp2
          go_ret
          rw [unhide HE, show k + (i - k) = i by omega, show decide (i < l.length) = true from decide_eq_true hlt]
          exact ⟨rfl, unhide HC1, grown_trans (unhide HG) (grown_trans (grown_below (unhide HB1) _) (grown_drew _ _))⟩
    · obtain rfl : i = l.length := by omega
      have ki1 : ¬ (l.length : Int) < (l.length : Int) := by omega
      have kd : decide ((l.length : Int) < (l.length : Int)) = false := decide_eq_false ki1
      have HE := hide (show cnt (ltD id) (l.drop k) = l.length - k from cnt_is (by omega) hpre (fun y hy => by
          rw [List.getElem?_drop, show k + (l.length - k) = l.length by omega, List.getElem?_eq_none (Nat.le_refl _)] at hy
          cases hy))
      clear hpre hc hg c0 c1
      go_wp2
      refine wp_region_quiet_below (by assumption) (by kernel_rfl) ?_
      repeat (go_big_quiet_step (fail))
      refine wpQuiet_nil ?_
      intro w1 hw'
      obtain ⟨⟨dq, osq⟩, hw''⟩ := hw'
      have b1 := below_regrown wr dq osq
      dsimp only at hw''
      rw [← hw''] at b1
      have HC1 := hide ((unhide HC).below b1)
      have HB1 := hide b1
      obtain ⟨e0, e1, e2⟩ := (unhide HC1).cells
      clear hw'' b1 r0 r1 f1 e2
      go_wp2
      go_region_held3 (fun w' => w'.cell? ⟨C, 0, none⟩ = some (.slice q l.length cap) ∧ w'.cell? ⟨C, 1, none⟩ = some (.int .i64 (l.length : Int))) (go_keep) (fail)
      all_goals
        go_wp2
        go_ret
        rw [unhide HE, show k + (l.length - k) = l.length by omega, show decide (l.length < l.length) = false from decide_eq_false (by omega)]
        exact ⟨rfl, unhide HC1, grown_trans (unhide HG) (grown_trans (grown_below (unhide HB1) _) (grown_drew _ _))⟩
end Go.Proofs.Ytelgpmjafaopmaa
