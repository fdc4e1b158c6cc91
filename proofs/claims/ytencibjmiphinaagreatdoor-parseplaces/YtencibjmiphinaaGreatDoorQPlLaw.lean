/- The law ParsePlaces returns true, whatever the texts. -/
import Derived.Test.YtencibjmiphinaaGreatDoorQPaPlLaw
import Derived.Test.YtencibjmiphinaaGreatDoorQLxTk
namespace Go.Proofs.YtencibjmiphinaaGreatDoor
open Go.RowKit Go.Sort

theorem parL_toks {s : ByteArray} (hs : s.size ≤ 4096) (ht : (Lx.toksL s.data.toList 0).2 = none) : parL s = whL s.size (Lx.toksL s.data.toList 0).1 := by
  unfold parL; rw [if_neg (by omega), ht]
/-- The token at which the parser gives up, and what stands behind it. -/
theorem places_plain {s : ByteArray} {p : Int} (hs : s.size ≤ 4096) (ht : (Lx.toksL s.data.toList 0).2 = none) (hp : parL s = .bad p) (hl : p < s.size) :
    0 ≤ p ∧ ∃ (k : Nat) (t : Tk), (Lx.toksL s.data.toList 0).1[k]? = some t ∧ t.2.1 = p ∧ (∀ (j : Nat) (x : Tk), (Lx.toksL s.data.toList 0).1[j]? = some x → x.2.1 = p → x = t) ∧ ∃ e : Nat, t.2.2.1 = (e : Int) ∧ e ≤ s.size ∧
      ∀ (m o : ByteArray), o.data.toList = s.data.toList.take e ++ 32 :: m.data.toList → o.size ≤ 4096 → (Lx.toksL o.data.toList 0).2 = none → parL o = .bad p := by
  rw [parL_toks hs ht] at hp
  obtain ⟨a, t, b, h1, rfl, h3⟩ := wh_bad hp (by omega)
  have hri := Lx.toksL_rise s.data.toList.length s.data.toList 0 (Nat.le_refl _)
  have hmem : t ∈ (Lx.toksL s.data.toList 0).1 := by rw [h1]; simp
  obtain ⟨f, e, e1, e2, _, e4, e5⟩ := Lx.toksL_in s.data.toList.length s.data.toList 0 (Nat.le_refl _) t hmem
  have hsz : s.data.toList.length = s.size := by simp
  have hk : (Lx.toksL s.data.toList 0).1[a.length]? = some t := by rw [h1]; simp
  refine ⟨by omega, a.length, t, hk, rfl, fun j x hj hx => ?_, e, e2, by omega, fun m o ho h4 h5 => ?_⟩
  · rw [List.pairwise_iff_getElem] at hri
    have l1 := (List.getElem?_eq_some_iff.1 hj)
    have l2 := (List.getElem?_eq_some_iff.1 hk)
    obtain ⟨l1, g1⟩ := l1
    obtain ⟨l2, g2⟩ := l2
    rcases Nat.lt_trichotomy j a.length with h | h | h
    · have := hri j a.length l1 l2 h
      rw [g1, g2] at this; omega
    · subst h; rw [← g1, ← g2]
    · have := hri a.length j l2 l1 h
      rw [g1, g2] at this; omega
  · rw [parL_toks h4 h5]
    have hc := Lx.toksL_cut m.data.toList a s.data.toList 0 t b e h1 (by rw [e2]; simp)
    rw [← ho] at hc
    rw [hc]
    exact h3 _ a t _ rfl rfl
set_option maxHeartbeats 4000000 in
theorem places_early (s more : ByteArray) (w : World) (hG : Lx.G w) (h : 4096 < s.size ∨ (∃ q, (Lx.toksL s.data.toList 0).2 = some q) ∨ prC (parL s) = 0 ∨ (s.size : Int) ≤ prP (parL s)) :
    Calls Tryz.prog 7 #[.string s, .string more] w fun e w' => e = .returned (.bool true) ∧ RowKit.Below w.heap.size w w' := by
  have hfx := fixed_any5 w hG
  have HG := hide hG
  obtain ⟨p, hp⟩ : ∃ p, prP (parL s) = p := ⟨_, rfl⟩
  obtain ⟨c, hc⟩ : ∃ c, prC (parL s) = c := ⟨_, rfl⟩
  rw [hp, hc] at h
  have HP := hide hp
  have HC := hide hc
  -- what Tokens answers: its error is f
  have htk : ∀ W, Lx.G W → Calls Tryz.prog 23 #[.string s] W fun e w' => ∃ q n cp r f, e = .returned (.tuple #[.slice q n cp, .int .i64 r, .int .i64 f]) ∧ RowKit.Below W.heap.size W w' ∧ (f = 0 → c = 0 ∨ (s.size : Int) ≤ p) := fun W hW => by
    by_cases hs : 4096 < s.size
    · exact (Lx.tokens_long s W hs).mono fun e w' ⟨he, hw⟩ => ⟨none, 0, 0, 4096, 10, he, by rw [hw]; exact RowKit.Below.refl _ _, fun h => by cases h⟩
    · refine (Lx.tokens_any s W hW (by omega)).mono fun e w' ⟨he, hw⟩ => ?_
      rcases he with ⟨r, hr, he⟩ | ⟨hr, q, cp, he, _⟩
      · exact ⟨none, 0, 0, r, 10, he, hw, fun h => by cases h⟩
      · refine ⟨q, _, cp, 0, 0, he, hw, fun _ => ?_⟩
        rcases h with h | ⟨r, h⟩ | h
        · exact absurd h hs
        · rw [hr] at h; cases h
        · exact h
  have HTK := hide htk
  clear hG hp hc h htk
  go_enter Tryz.func7, Tryz.ntmps7
  go_upto_region 5 with first
    | (go_at_call 9; refine hfx.mono ?_; rintro e w1 ⟨rfl, hb⟩; have B1 := hide hb; clear hb)
    | (go_at_call 10; refine (parse_any s _ (G_on (unhide HG) (unhide B1))).mono ?_; intro e w2 h; obtain ⟨v, rfl, hv, hb⟩ := h.said; rw [unhide HP, unhide HC]; have B2 := hide (below_sub (below_sub (unhide B1) hb) (al_bel w2 (.cells #[.int .i64 v.kind, .string v.attr, .slice v.qi v.ni v.ci, .slice v.qw v.nw v.cw, .int .i64 v.lo, .int .i64 v.hi, .int .i64 v.op, .slice v.qk v.nk v.ck] 29))); clear h hv hb; unfold Nv.val)
    | (go_at_call 23; refine (unhide HTK _ (G_on (unhide HG) (unhide B2))).mono ?_; rintro e w3 ⟨q, n, cp, r, f, rfl, hb, hf⟩; have B3 := hide (below_sub (unhide B2) hb); have HF := hide hf; clear hb hf)
  by_cases c0 : c = 0
  · subst c0
    go_wp2
    go_ret
    exact ⟨rfl, unhide B3⟩
  · have d1 : (c == 0) = false := by simp [c0]
    by_cases f0 : f = 0
    · have d2 : (s.size : Int) ≤ p := by
        rcases unhide HF f0 with h | h
        · exact absurd h c0
        · exact h
      subst f0
      have d3 : ¬ p < 0 := by omega
      clear c0
      go_wp2
      go_ret
      exact ⟨rfl, unhide B3⟩
    · have d2 : ¬ f = 0 := f0
      clear c0 f0
      go_wp2
      go_ret
      exact ⟨rfl, unhide B3⟩
set_option maxRecDepth 100000 in
set_option maxHeartbeats 4000000 in
theorem places_late (s more : ByteArray) (hm : more.size ≤ 140737488355328) (w : World) (hG : Lx.G w) (hs : s.size ≤ 4096) (ht : (Lx.toksL s.data.toList 0).2 = none) (p : Int) (hp : parL s = .bad p) (hl : p < s.size) :
    Calls Tryz.prog 7 #[.string s, .string more] w fun e w' => e = .returned (.bool true) ∧ RowKit.Below w.heap.size w w' := by
  have hfx := fixed_any5 w hG
  have HG := hide hG
  obtain ⟨hp0, k, t, hk, htp, hun, e0, he0, hes, hot⟩ := places_plain hs ht hp hl
  obtain ⟨l, hL⟩ : ∃ l, (Lx.toksL s.data.toList 0).1 = l := ⟨_, rfl⟩
  rw [hL] at hk hun
  have HL := hide hL
  have HT := hide ht
  have HPA := hide hp
  have HK := hide hk
  have HUN := hide hun
  have HOT := hide (hot more)
  have HE0 := hide he0
  have HTP := hide htp
  have htk := fun W (hW : Lx.G W) => Lx.tokens_any s W hW hs
  have HTK := hide htk
  have lc : l.length ≤ 4096 := by
    have := (toksL_fit 4096 s.data.toList 0 (by simp; omega) (Nat.le_refl _)).1
    rw [hL] at this; simp at this; omega
  have d3 : ¬ p < 0 := by omega
  have d4 : ¬ (s.size : Int) ≤ p := by omega
  have g0 : (0 : Int) ≤ (e0 : Int) := by omega
  have g1 : (e0 : Int) ≤ (s.size : Int) := by omega
  clear hG hp htk hk hun hot he0 htp hL ht
  go_enter Tryz.func7, Tryz.ntmps7
  go_upto_region 8 with first
    | (go_at_call 9; refine hfx.mono ?_; rintro e w1 ⟨rfl, hb⟩; have B1 := hide hb; clear hb)
    | (go_at_call 10; refine (parse_any s _ (G_on (unhide HG) (unhide B1))).mono ?_; intro e w2 h; rw [unhide HPA] at h; obtain ⟨v, rfl, hv, hb⟩ := h.said; simp only [prP, prC]; have B2 := hide (below_sub (below_sub (unhide B1) hb) (al_bel w2 (.cells #[.int .i64 v.kind, .string v.attr, .slice v.qi v.ni v.ci, .slice v.qw v.nw v.cw, .int .i64 v.lo, .int .i64 v.hi, .int .i64 v.op, .slice v.qk v.nk v.ck] 29))); clear h hv hb; unfold Nv.val)
    | (go_at_call 23; refine (unhide HTK _ (G_on (unhide HG) (unhide B2))).mono ?_; rintro e w3 ⟨he, hb⟩; (obtain ⟨r, hr, _⟩ | ⟨_, q, cp, rfl, ho⟩ := he); (rw [unhide HT] at hr; cases hr); rw [unhide HL] at ho ⊢; have B3 := hide (below_sub (unhide B2) hb); have HO := hide ho.tks.1; clear hb ho)
  go_loopw [52] (fun v wr => ∃ j : Nat, v = .int .i64 j ∧ j ≤ l.length ∧ (∀ i x, i < j → l[i]? = some x → x.2.1 ≠ p) ∧ RowKit.Below w3.heap.size w3 wr) (fun v _ => l.length - (intOf v).toNat)
  case atStart => exact ⟨0, rfl, by omega, fun i x hi => by omega, RowKit.Below.refl _ _⟩
  case round =>
    obtain ⟨j, rfl, hj, hne, hbel⟩ := hrel
    have HB := hide hbel
    have HNE := hide hne
    clear hbel hne
    by_cases hjl : j < l.length
    · obtain ⟨x, hx, _⟩ := get_at hjl
      obtain ⟨b, off, rfl, hb, hta⟩ := (unhide HO) (by omega)
      obtain ⟨t0, t1, t2, t3, t4⟩ := (hta.below (unhide HB) hb) j x hx
      have j0 : (0 : Int) ≤ (j : Int) := by omega
      have j1 : (j : Int) < (l.length : Int) := by omega
      have HX := hide hx
      clear hx hta
      by_cases hxp : x.2.1 = p
      · obtain rfl := unhide HUN j x (unhide HX) hxp
        have hxe := unhide HE0
        rw [hxe] at t2
        rw [hxp] at t1
        have XP := hide hxp
        clear hxp
        obtain ⟨o, HO2⟩ : ∃ o, s.extract 0 e0 ++ ⟨#[32]⟩ ++ more = o := ⟨_, rfl⟩
        have hol : o.data.toList = s.data.toList.take e0 ++ 32 :: more.data.toList := by
          rw [← HO2]
          simp [ByteArray.data_extract]
        have htko : ∀ W, Lx.G W → Calls Tryz.prog 23 #[.string o] W fun e w' => ∃ q n cp r f, e = .returned (.tuple #[.slice q n cp, .int .i64 r, .int .i64 f]) ∧ RowKit.Below W.heap.size W w' ∧ (f = 0 → parL o = .bad p) := fun W hW => by
          by_cases hs : 4096 < o.size
          · exact (Lx.tokens_long o W hs).mono fun e w' ⟨he, hw⟩ => ⟨none, 0, 0, 4096, 10, he, by rw [hw]; exact RowKit.Below.refl _ _, fun h => by cases h⟩
          · refine (Lx.tokens_any o W hW (by omega)).mono fun e w' ⟨he, hw⟩ => ?_
            rcases he with ⟨r, hr, he⟩ | ⟨hr, q, cp, he, _⟩
            · exact ⟨none, 0, 0, r, 10, he, hw, fun h => by cases h⟩
            · exact ⟨q, _, cp, 0, 0, he, hw, fun _ => unhide HOT o hol (by omega) hr⟩
        have HTO := hide htko
        have BX := hide (below_sub (unhide HB) (al_bel wr (.cells #[.int .i64 x.1, .int .i64 p, .int .i64 (e0 : Int), .int .i64 x.2.2.2.1, .string x.2.2.2.2] 56)))
        have HO2' := hide HO2
        clear hol htko HO2
        have hc1 : ¬ 9223372036854775807 < min e0 s.size + 1 + more.size := by omega
        go_upto_region 12 with (fail)
        rw [unhide HO2']
        go_upto_region 14 with first
          | (go_at_call 23; refine (unhide HTO _ (G_on (unhide HG) (below_sub (unhide B3) (unhide BX)))).mono ?_; rintro e w5 ⟨q5, n5, cp5, r5, f5, rfl, hb5, hf5⟩; have B5 := hide (below_sub (below_sub (unhide B3) (unhide BX)) hb5); have HF5 := hide hf5; clear hb5 hf5)
          | (go_at_call 10; refine (parse_any o _ (G_on (unhide HG) (unhide B5))).mono ?_; intro e w6 h; obtain ⟨u, rfl, hu, hb6⟩ := h.said; have B6 := hide (below_sub (below_sub (unhide B5) hb6) (al_bel w6 (.cells #[.int .i64 u.kind, .string u.attr, .slice u.qi u.ni u.ci, .slice u.qw u.nw u.cw, .int .i64 u.lo, .int .i64 u.hi, .int .i64 u.op, .slice u.qk u.nk u.ck] 29))); clear h hu hb6; unfold Nv.val)
        by_cases f0 : f5 = 0
        · have hpo := unhide HF5 f0
          rw [hpo]
          subst f0
          clear hpo
          simp only [prP, prC]
          go_wp2
          go_ret
          exact ⟨ret_bool (by simp), unhide B6⟩
        · have d2 : ¬ f5 = 0 := f0
          clear f0
          go_wp2
          go_ret
          exact ⟨rfl, unhide B6⟩
      · have x1 : ¬ x.2.1 = p := hxp
        have hn2 : ∀ i y, i < j + 1 → l[i]? = some y → y.2.1 ≠ p := fun i y hi hy => by
          rcases Nat.lt_succ_iff_lt_or_eq.1 hi with h | rfl
          · exact unhide HNE i y h hy
          · have := (unhide HX).symm.trans hy
            cases this; exact hxp
        have HN2 := hide hn2
        clear hn2 hxp
        go_wp2
        go_roundw
        case rel => exact ⟨j + 1, by go_num, by omega, unhide HN2, below_sub (unhide HB) (al_bel wr (.cells #[.int .i64 x.1, .int .i64 x.2.1, .int .i64 x.2.2.1, .int .i64 x.2.2.2.1, .string x.2.2.2.2] 56))⟩
        case measure => simp [intOf]; omega
    · exfalso
      obtain ⟨lk, _⟩ := List.getElem?_eq_some_iff.1 (unhide HK)
      exact unhide HNE k t (by omega) (unhide HK) (unhide HTP)
theorem parsePlaces_any (s more : ByteArray) (hm : more.size ≤ 140737488355328) (w : World) (hG : Lx.G w) :
    Calls Tryz.prog 7 #[.string s, .string more] w fun e w' => e = .returned (.bool true) ∧ RowKit.Below w.heap.size w w' := by
  by_cases hs : 4096 < s.size
  · exact places_early s more w hG (Or.inl hs)
  · cases ht : (Lx.toksL s.data.toList 0).2 with
    | some q => exact places_early s more w hG (Or.inr (Or.inl ⟨q, ht⟩))
    | none =>
      cases hp : parL s with
      | ok y r => exact places_early s more w hG (Or.inr (Or.inr (Or.inl (by rw [hp]; rfl))))
      | bad p =>
        by_cases hl : p < s.size
        · exact places_late s more hm w hG (by omega) ht p hp hl
        · exact places_early s more w hG (Or.inr (Or.inr (Or.inr (by rw [hp]; show (s.size : Int) ≤ p; omega))))
end Go.Proofs.YtencibjmiphinaaGreatDoor
