/- The reference's Add. -/
import Derived.Test.YtelgpmjafaopmaaInsAt
namespace Go.Proofs.Ytelgpmjafaopmaa
open Go.RowKit Go.Sort Go.Shelf

set_option maxHeartbeats 2000000 in
set_option maxRecDepth 100000 in
/-- trommelref13.Add. -/
theorem refAdd (p : Option Addr) (c : Nat) (l : List Pt) (p' : Option Addr) (c' : Nat) (m : List Pt) (w : World) (hs : SlOf encP 2 w p c l) (hm : SlOf encP 2 w p' c' m) (hst : Str l) (hl : (l.length + m.length) * 16 + 64 ≤ 140737488355328) :
    Calls Try.prog 14 #[.slice p l.length c, .slice p' m.length c'] w fun e w' => (∃ q cap, e = .returned (.tuple #[.slice q (ris (l ++ m)).length cap, .int .i64 (((ris (l ++ m)).length - l.length : Nat) : Int)]) ∧ OwnK encP 43 2 w.heap.size w' q cap (ris (l ++ m))) ∧ Below w.heap.size w w' := by
  have mixed : Try.prog.follows .mixedOrders = true := by kernel_rfl
  have e35 : ∀ args w, (callFunc 35 args).run Try.prog w = .ok (.enter 35 args) w := enters_of Try.func35 (by kernel_rfl) rfl
  have m1 : (m.length : Int) ≤ 100000000000000 := by omega
  have HS := hide hs
  have HM := hide hm
  have HST := hide hst
  clear hs hm hst
  go_enter Try.func14, Try.ntmps14
  go_wp2_with (at_builtin; refine wpList_app rowP rfl _ _ rfl w.heap.size (some ⟨w.heap.size, 0, none⟩) 0 [] p c l 0 l.length l.length rfl rfl (by simp) rfl rfl (OwnK.made _ _ (Nat.le_refl _)) ((unhide HS).below ((Below.refl _ _).alloc (Nat.le_refl _) _)).src (by unfold maxLen; omega) (by omega) (by simp) ?_; intro q8 cp8 w8 hown8 hb8 hnn8 _; have Hown8 := hide hown8; have HNN := hide (hnn8 (by simp)); have B8 := hide (((Below.refl w.heap.size w).alloc (Nat.le_refl _) (.cells #[] 43)).trans hb8); clear hown8 hb8 hnn8)
  go_loopw [6, 7, 8] (fun s6 s7 s8 wr => ∃ (i n : Nat) (o : List Pt) (q : Option Addr) (cap : Nat), i ≤ m.length ∧ s8 = .int .i64 i ∧ s7 = .int .i64 n ∧ s6 = .slice q o.length cap ∧ o.length = l.length + n ∧ n ≤ i ∧ Str o ∧ (∀ z, z ∈ o ↔ z ∈ l ∨ z ∈ m.take i) ∧ OwnK encP 43 2 w.heap.size wr q cap o ∧ Below w.heap.size w wr) (fun _ _ s8 _ => m.length - (intOf s8).toNat)
  case atStart => exact ⟨0, 0, l, q8, cp8, Nat.zero_le _, rfl, rfl, rfl, rfl, Nat.le_refl _, unhide HST, fun z => by simp, by simpa using unhide Hown8, unhide B8⟩
  case round =>
    obtain ⟨i, n, o, q, cap, hi, rfl, rfl, rfl, hol, hni, ho1, ho2, hO, hB⟩ := hrel
    have HO := hide hO
    have HB := hide hB
    have H1 := hide ho1
    have H2 := hide ho2
    have hsz := hB.size
    have HOL := hide hol
    have ob : o.length * 16 ≤ (l.length + i) * 16 := by omega
    have ob2 : n ≤ m.length := by omega
    clear hO hB ho1 ho2 hol
    by_cases hlt : i < m.length
    · obtain ⟨x, hx, _⟩ := get_at hlt
      obtain ⟨b, off, hq, hbs, c0, c1⟩ := postAt ((unhide HM).below (unhide HB)) hx
      have ki0 : (0 : Int) ≤ (i : Int) := by omega
      have ki1 : (i : Int) < (m.length : Int) := by omega
      have n1 : (n : Int) ≤ 100000000000000 := by omega
      have hh := refHas q cap o x wr (unhide HO).ls (by omega)
      have HX := hide hx
      have HT := hide (take_snoc_of hx)
      subst hq
      clear hx
      by_cases hxo : x ∈ o
      · rw [decide_eq_true hxo] at hh
        have H3 := hide (show ∀ z, z ∈ o ↔ z ∈ l ∨ z ∈ m.take (i + 1) from fun z => by
          rw [unhide HT, List.mem_append, List.mem_singleton, unhide H2]
          constructor
          · rintro (h | h) <;> simp [h]
          · rintro (h | h | h)
            · exact Or.inl h
            · exact Or.inr h
            · subst h; exact (unhide H2 z).1 hxo)
        clear hxo
        go_wp2_with (go_at_call 28; refine hh.mono ?_; rintro e w1 ⟨rfl, hb1⟩; have HB1 := hide hb1; clear hb1)
        go_roundw
        case rel => exact ⟨i + 1, n, o, q, cap, by omega, by go_num, rfl, rfl, unhide HOL, by omega, unhide H1, unhide H3, (unhide HO).below (unhide HB1), (unhide HB).trans ((unhide HB1).mono hsz)⟩
        case measure => simp [intOf]; omega
      · rw [decide_eq_false hxo] at hh
        have HXO := hide hxo
        obtain ⟨N1, hN1⟩ : ∃ N1, o.length + 1 = N1 := ⟨_, rfl⟩
        have HN1 := hide hN1
        clear hxo
        go_wp2_with (first
          | (go_at_call 28; refine hh.mono ?_; rintro e w1 ⟨rfl, hb1⟩; have HB1 := hide hb1; have hsz1 := hb1.size; have d0 := (hb1.cell (p := ⟨b, off + i * 2, none⟩) hbs).trans c0; have d1 := (hb1.cell (p := ⟨b, off + i * 2 + 1, none⟩) hbs).trans c1; clear hb1)
          | (at_builtin; refine wpList_app rowP rfl _ _ rfl w.heap.size q cap o (some ⟨_, 0, none⟩) 1 [x] o.length 1 N1 rfl rfl (unhide HN1) rfl rfl (((unhide HO).below (unhide HB1)).below ((Below.refl _ _).alloc (Nat.le_refl _) _)) (srcP (World.alloc_heap_new _ _)) (by unfold maxLen; omega) (by omega) (by simp; omega) ?_; intro q2 cap2 w2 ho2 hb2 _ _; have HO2 := hide ho2; have HB2 := hide (((unhide HB).trans (((unhide HB1).mono hsz).alloc (by omega) _)).trans hb2); clear ho2 hb2))
        obtain ⟨g, rfl, hBg, hgw, hlc, hcm⟩ := (unhide HO2).some_of (by simp)
        clear d0 d1 c0 c1 hh
        go_loopw [9] (fun s9 wi => ∃ (K : Nat) (y : Pt), K ≤ o.length ∧ s9 = .int .i64 K ∧ OwnK encP 43 2 w.heap.size wi (some ⟨g, 0, none⟩) cap2 (o.take K ++ y :: o.drop K) ∧ (∀ z ∈ o.drop K, ltP x z) ∧ Below w.heap.size w wi) (fun s9 _ => (intOf s9).toNat)
        case atStart => exact ⟨o.length, x, Nat.le_refl _, rfl, by simpa using unhide HO2, fun z hz => by simp at hz, unhide HB2⟩
        case round =>
          obtain ⟨K, y, hK, rfl, hO3, hgt, hB3⟩ := hrel
          have HO3 := hide hO3
          have HB3 := hide hB3
          have HGT := hide hgt
          have f0 := fun t => hO3.free t
          have hsz3 := hB3.size
          obtain ⟨y0, y1⟩ := hO3.at2 (mid_at y hK)
          obtain ⟨b2, off2, hq2, hbs2, c0, c1⟩ := postAt ((unhide HM).below hB3) (unhide HX)
          obtain ⟨rfl, rfl⟩ : b = b2 ∧ off = off2 := by injection hq2 with h1; injection h1 with h1 h2; exact ⟨h1, h2⟩
          have K0 : (0 : Int) ≤ (K : Int) := by omega
          have K1 : (K : Int) < (N1 : Int) := by omega
          clear hgt hB3 hq2
          by_cases hk0 : K = 0
          · subst hk0
            have kd : decide ((0 : Int) < ((0 : Nat) : Int)) = false := by decide
            have HFIN := hide (ins_at (k := 0) (unhide H1) (unhide HXO) (unhide HGT) (fun n z h => by omega) (Nat.zero_le _))
            clear hO3
            go_wp2
            refine wp_region_quiet_below (by assumption) (by kernel_rfl) ?_
            repeat (go_big_quiet_step (fail))
            refine wpQuiet_nil ?_
            intro w3 hw'
            obtain ⟨⟨dq, osq⟩, hw''⟩ := hw'
            have b3 := below_regrown wr dq osq
            dsimp only at hw''
            rw [← hw''] at b3
            have HO4 := hide ((unhide HO3).below b3)
            have HB4 := hide ((unhide HB3).trans (b3.mono hsz3))
            obtain ⟨v0, v1⟩ := (unhide HO4).at2 (mid_at y hK)
            have f4 := fun t => (unhide HO4).free t
            obtain ⟨b5, off5, hq5, hbs5, x0, x1⟩ := postAt ((unhide HM).below (unhide HB4)) (unhide HX)
            obtain ⟨rfl, rfl⟩ : b = b5 ∧ off = off5 := by injection hq5 with h1; injection h1 with h1 h2; exact ⟨h1, h2⟩
            clear hw'' b3 f0 y0 y1 c0 c1 
            go_wp2
            go_roundw
            case rel => exact ⟨i + 1, n + 1, o.take 0 ++ x :: o.drop 0, some ⟨g, 0, none⟩, cap2, by omega, by go_num, by go_num, (by rw [mid_len x hK]; have := unhide HN1; rw [this]), (by rw [mid_len x hK]; have := unhide HOL; omega), by omega, (unhide HFIN).1, (fun z => by rw [(unhide HFIN).2, unhide HT, List.mem_append, List.mem_singleton, unhide H2, or_assoc]), (by have := (unhide HO4).put (k := 0) (by rw [mid_len y hK]; omega) x; rwa [set_mid y x hK] at this), ((unhide HB4).setCell (p := ⟨g, 0 * 2, none⟩) hBg _).setCell (p := ⟨g, 0 * 2 + 1, none⟩) hBg _⟩
            case measure => simp [intOf]; omega
          · obtain ⟨n1, hn1⟩ : ∃ n1, K = n1 + 1 := ⟨K - 1, by omega⟩
            obtain ⟨z, hz, _⟩ := get_at (l := o) (k := n1) (by omega)
            obtain ⟨z0, z1⟩ := hO3.at2 (mid_left y hK (by omega) hz)
            have r0 := cell_regrown z0
            have r1 := cell_regrown z1
            have s0 := cell_regrown c0
            have s1 := cell_regrown c1
            have hcm' := fun W => refCmpB z x W
            have kd : decide (0 < K) = true := decide_eq_true (by omega)
            have kn : 0 < K := by omega
            have kp : (0 : Int) < (K : Int) := by omega
            have hw : IntKind.i64.wrap ((K : Int) - 1) = (n1 : Int) := by rw [show (K : Int) - 1 = (n1 : Int) by omega]; exact wrap_nat n1 (by omega)
            have q0 : (0 : Int) ≤ (n1 : Int) := by omega
            have q1 : (n1 : Int) < (N1 : Int) := by omega
            have HKN := hide hn1
            have HZ := hide hz
            by_cases hcx : 0 < cmpP z x
            · have cd : decide (0 < cmpP z x) = true := decide_eq_true hcx
              have HNX := hide (show ∀ u ∈ o.drop n1, ltP x u from fun u hu => by
                have e : o.drop n1 = z :: o.drop K := by
                  have h := List.drop_eq_getElem_cons (List.getElem?_eq_some_iff.1 hz).1
                  rw [(List.getElem?_eq_some_iff.1 hz).2, ← hn1] at h
                  exact h
                rw [e] at hu
                rcases List.mem_cons.1 hu with rfl | hu
                · exact (cmp_pos _ _).1 hcx
                · exact unhide HGT u hu)
              clear hn1 hz
              clear hO3
              go_wp2
              refine wp_region_quiet_below (by assumption) (by kernel_rfl) ?_
              repeat (go_big_quiet_step (first | (go_at_fn 35; refine Calls.regrown_of (hcm' _))))
              refine wpQuiet_nil ?_
              intro w3 hw'
              obtain ⟨⟨dq, osq⟩, hw''⟩ := hw'
              have b3 := below_regrown wr dq osq
              dsimp only at hw''
              rw [← hw''] at b3
              have HO4 := hide ((unhide HO3).below b3)
              have HB4 := hide ((unhide HB3).trans (b3.mono hsz3))
              obtain ⟨v0, v1⟩ := (unhide HO4).at2 (mid_at y hK)
              have f4 := fun t => (unhide HO4).free t
              obtain ⟨t0, t1⟩ := (unhide HO4).at2 (mid_left y hK (by have := unhide HKN; omega) (unhide HZ))
              clear hw'' b3 f0 y0 y1 c0 c1 z0 z1 r0 r1 s0 s1 hcm'
              go_wp2
              go_roundw
              case rel => exact ⟨n1, z, by have := unhide HKN; omega, by go_num, (by have := (unhide HO4).put (k := K) (by rw [mid_len y hK]; omega) z; rw [set_mid y z hK] at this; rw [← mid_step (unhide HZ), ← unhide HKN]; exact this), unhide HNX, ((unhide HB4).setCell (p := ⟨g, K * 2, none⟩) hBg _).setCell (p := ⟨g, K * 2 + 1, none⟩) hBg _⟩
              case measure => have := unhide HKN; simp [intOf]; omega
            · have cd : decide (0 < cmpP z x) = false := decide_eq_false hcx
              have HFIN := hide (ins_at (k := K) (unhide H1) (unhide HXO) (unhide HGT) (fun n u h hu => by
                obtain rfl : n = n1 := by omega
                rw [hz] at hu
                cases hu
                exact fun h => hcx ((cmp_pos _ _).2 h)) hK)
              clear hn1 hz
              clear hO3
              go_wp2
              refine wp_region_quiet_below (by assumption) (by kernel_rfl) ?_
              repeat (go_big_quiet_step (first | (go_at_fn 35; refine Calls.regrown_of (hcm' _))))
              refine wpQuiet_nil ?_
              intro w3 hw'
              obtain ⟨⟨dq, osq⟩, hw''⟩ := hw'
              have b3 := below_regrown wr dq osq
              dsimp only at hw''
              rw [← hw''] at b3
              have HO4 := hide ((unhide HO3).below b3)
              have HB4 := hide ((unhide HB3).trans (b3.mono hsz3))
              obtain ⟨v0, v1⟩ := (unhide HO4).at2 (mid_at y hK)
              have f4 := fun t => (unhide HO4).free t
              obtain ⟨b5, off5, hq5, hbs5, x0, x1⟩ := postAt ((unhide HM).below (unhide HB4)) (unhide HX)
              obtain ⟨rfl, rfl⟩ : b = b5 ∧ off = off5 := by injection hq5 with h1; injection h1 with h1 h2; exact ⟨h1, h2⟩
              clear hw'' b3 f0 y0 y1 c0 c1 z0 z1 r0 r1 s0 s1 hcm'
              go_wp2
              go_roundw
              case rel => exact ⟨i + 1, n + 1, o.take K ++ x :: o.drop K, some ⟨g, 0, none⟩, cap2, by omega, by go_num, by go_num, (by rw [mid_len x hK]; have := unhide HN1; rw [this]), (by rw [mid_len x hK]; have := unhide HOL; omega), by omega, (unhide HFIN).1, (fun z => by rw [(unhide HFIN).2, unhide HT, List.mem_append, List.mem_singleton, unhide H2, or_assoc]), (by have := (unhide HO4).put (k := K) (by rw [mid_len y hK]; omega) x; rwa [set_mid y x hK] at this), ((unhide HB4).setCell (p := ⟨g, K * 2, none⟩) hBg _).setCell (p := ⟨g, K * 2 + 1, none⟩) hBg _⟩
              case measure => simp [intOf]; omega
    · have ki1 : ¬ (i : Int) < (m.length : Int) := by omega
      obtain rfl : i = m.length := by omega
      have e1 : m.take m.length = m := List.take_length
      have HE := hide (show ris (l ++ m) = o from ris_of (unhide H1) fun z => by rw [unhide H2, e1, List.mem_append])
      clear e1
      go_wp2
      refine bodyPost_ret (v := .tuple #[.slice q o.length cap, .int .i64 (n : Int)]) (by simp [results, Try.f14, go_sem]) rfl ?_
      rw [unhide HE, show o.length - l.length = n by have := unhide HOL; omega]
      exact ⟨⟨q, cap, rfl, unhide HO⟩, unhide HB⟩
end Go.Proofs.Ytelgpmjafaopmaa
