/- DiskRenames answers true. -/
import Derived.Test.YtakjbkgngmkpcaaFixed
namespace Go.Proofs.Ytakjbkgngmkpcaa
open Go.RowKit Go.Sort Go.Shelf

theorem conv_sl {w : World} {q : Option Addr} {c : Nat} {l : List UInt8} (h : SlOf encB 1 w q c l) : (convert 30 9 (.slice q l.length c)).run Try.prog w = .ok (.string ⟨l.toArray⟩) w := by
  by_cases hl : 0 < l.length
  · obtain ⟨b, off, rfl, _, hA⟩ := h.2.2.2 hl
    refine run_convert_bytes_back w 30 9 5 _ c l Try.underlying30 Try.underlying5 Try.underlying9 fun j hj => ?_
    rw [add_plain]
    exact hA j _ (by rw [flatB, List.getElem?_map, List.getElem?_eq_getElem hj]; rfl)
  · obtain rfl : l = [] := List.length_eq_zero_iff.1 (by omega)
    cases q with
    | none =>
      have := (h.1 rfl).2
      subst this
      exact run_convert_bytes_nil w 30 5 Try.underlying30 Try.underlying5 0 0 9 Try.underlying9
    | some a => exact run_convert_bytes_back w 30 9 5 a c [] Try.underlying30 Try.underlying5 Try.underlying9 fun j hj => by simp at hj
/-- A disk of two files, b and a. -/
def ba (old fresh : List UInt8) (L acts : Nat) : Dk := ⟨upd (upd (fun _ => none) nB (some ⟨old, 0⟩)) nA (some ⟨fresh, L⟩), 2, acts, false, 0, 0⟩
theorem ba_A (old fresh : List UInt8) (L acts : Nat) : (ba old fresh L acts).get nA = some ⟨fresh, L⟩ := by simp only [ba, upd_same]
theorem ba_ren (old fresh : List UInt8) (L acts : Nat) : upd (upd (ba old fresh L acts).get nA none) nB (some ⟨fresh, L⟩) = (one nB fresh L 3 (acts + 1) false 0 0).get := by
  funext x
  simp only [ba, one]
  by_cases e : x = nB
  · subst e; rw [upd_same, upd_same]
  · rw [upd_ne _ _ e, upd_ne _ _ e]
    by_cases e2 : x = nA
    · subst e2; rw [upd_same]
    · rw [upd_ne _ _ e2, upd_ne _ _ e2, upd_ne _ _ e]
theorem kept_all (fl : Fl) (h : fl.lasts = fl.bytes.length) (ch : Int) : keptN fl ch = fl.bytes.length := by
  have h1 := modZ_lt ch (m := fl.bytes.length - fl.lasts + 1) (by omega)
  unfold keptN
  omega
set_option maxHeartbeats 4000000 in
set_option maxRecDepth 100000 in
theorem ren_law (q0 : Option Addr) (k0 : Nat) (old : List UInt8) (q1 : Option Addr) (k1 : Nat) (fresh : List UInt8) (q2 : Option Addr) (k2 : Nat) (cs : List Int) (sy : Bool) (w : World) (s0 : SlOf encB 1 w q0 k0 old) (s1 : SlOf encB 1 w q1 k1 fresh) (s2 : SlOf encI 1 w q2 k2 cs) (l0 : old.length ≤ 140737488355328) (l1 : fresh.length ≤ 140737488355328) (l2 : cs.length ≤ 140737488355328) :
    Calls Try.prog 6 #[.slice q0 old.length k0, .slice q1 fresh.length k1, .slice q2 cs.length k2, .bool sy] w fun e w' => e = .returned (.bool true) ∧ Below w.heap.size w w' := by
  have mixed : Try.prog.follows .mixedOrders = true := by kernel_rfl
  have hf := fixed_any w
  have hN := fun W : World => new_any W
  have a1 : ∀ (g B : Nat) (W : World), DkAt B W g empty → B ≤ W.heap.size → SlOf encB 1 W q0 k0 old → Calls Try.prog 10 #[.pointer (some ⟨g, 0, none⟩), .string ⟨#[98]⟩, .slice q0 old.length k0] W fun e w' => e = .returned (.int .i64 0) ∧ DkAt B w' g (one nB old 0 1 1 false 0 0) ∧ Below B W w' := fun g B W h hB hS => by
    have := append_yes h hB (nm := nB) rfl okB' (by decide) (by decide) (by decide) q0 k0 old hS (fun fl h => by cases h) l0
    rw [empty_grow] at this
    exact this
  have a2 : ∀ (g B : Nat) (W : World), DkAt B W g (one nB old 0 1 1 false 0 0) → B ≤ W.heap.size → SlOf encB 1 W q1 k1 fresh → Calls Try.prog 10 #[.pointer (some ⟨g, 0, none⟩), .string ⟨#[97]⟩, .slice q1 fresh.length k1] W fun e w' => e = .returned (.int .i64 0) ∧ DkAt B w' g (ba old fresh 0 2) ∧ Below B W w' := fun g B W h hB hS => by
    have := append_yes h hB (nm := nA) rfl okA (show 0 ≠ 1 by decide) (show 1 ≤ 4611686018427387904 by decide) (show 1 < maxLen by decide) q1 k1 fresh hS (fun fl h => by rw [one_other neAB] at h; cases h) l1
    rw [grow_none (by simp only [one, upd_ne _ _ neAB])] at this
    exact this
  have a3 : ∀ (g B : Nat) (W : World), DkAt B W g (ba old fresh 0 2) → B ≤ W.heap.size → Calls Try.prog 11 #[.pointer (some ⟨g, 0, none⟩), .string ⟨#[97]⟩] W fun e w' => e = .returned (.int .i64 0) ∧ DkAt B w' g (ba old fresh fresh.length 3) ∧ Below B W w' := fun g B W h hB => by
    have := sync_yes h hB (nm := nA) rfl okA (ba_A _ _ _ _) (show 0 ≠ 1 by decide) (show 2 ≤ 4611686018427387904 by decide)
    simp only [ba, upd_upd, lastF] at this ⊢
    exact this
  have a4 : ∀ (L acts : Nat) (g B : Nat) (W : World), DkAt B W g (ba old fresh L acts) → Calls Try.prog 14 #[.pointer (some ⟨g, 0, none⟩), .string ⟨#[97]⟩] W fun e w' => e = .returned (.int .i64 ((fresh.length - L : Nat) : Int)) ∧ Below W.heap.size W w' := fun L acts g B W h => loose_yes h (nm := nA) rfl okA (ba_A _ _ _ _) l1
  have a5 : ∀ (L acts : Nat), acts ≤ 10 → ∀ (g B : Nat) (W : World), DkAt B W g (ba old fresh L acts) → B ≤ W.heap.size → Calls Try.prog 17 #[.pointer (some ⟨g, 0, none⟩), .string ⟨#[97]⟩, .string ⟨#[98]⟩] W fun e w' => e = .returned (.int .i64 0) ∧ DkAt B w' g (one nB fresh L 3 (acts + 1) false 0 0) ∧ Below B W w' := fun L acts ha g B W h hB => by
    have := rename_yes h hB (nm := nA) (to := nB) rfl okA okB' (ba_A _ _ _ _) (show 0 ≠ 1 by decide) (show acts ≤ 4611686018427387904 by omega) (show 2 < maxLen by decide)
    rw [ba_ren] at this
    exact this
  have a6 : ∀ (L acts : Nat) (g B : Nat) (W : World), DkAt B W g (one nB fresh L 3 (acts + 1) false 0 0) → Calls Try.prog 14 #[.pointer (some ⟨g, 0, none⟩), .string ⟨#[98]⟩] W fun e w' => e = .returned (.int .i64 ((fresh.length - L : Nat) : Int)) ∧ Below W.heap.size W w' := fun L acts g B W h => loose_yes h (nm := nB) rfl okB' (one_get _ _ _ _ _ _ _ _) l1
  have a7 : ∀ (L acts : Nat) (g B : Nat) (W : World), DkAt B W g (one nB fresh L 3 (acts + 1) false 0 0) → B ≤ W.heap.size → SlOf encI 1 W q2 k2 cs → (0 < cs.length → ∀ b off, q2 = some ⟨b, off, none⟩ → b ≠ g) → Calls Try.prog 12 #[.pointer (some ⟨g, 0, none⟩), .slice q2 cs.length k2] W fun e w' => (∃ gf, e = .returned (.pointer (some ⟨gf, 0, none⟩)) ∧ DkAt W.heap.size w' gf (one nB (foundF ⟨fresh, L⟩ (chAt cs 0)).bytes (foundF ⟨fresh, L⟩ (chAt cs 0)).lasts 1 0 false 0 0)) ∧ Below B W w' := fun L acts g B W h hB hS hg => by
    refine (crash_any h hB (show 3 ≤ 1000000000 by decide) (one_all (by decide) l1) q2 k2 cs hS l2 hg).mono ?_
    rintro e w' ⟨h1, _, h3⟩
    exact ⟨crash_one h1, h3⟩
  have a8 : ∀ (bs : List UInt8) (l : Nat), bs.length ≤ 140737488355328 → ∀ (g B : Nat) (W : World), DkAt B W g (one nB bs l 1 0 false 0 0) → Calls Try.prog 13 #[.pointer (some ⟨g, 0, none⟩), .string ⟨#[98]⟩] W fun e w' => (∃ q' c', e = .returned (.tuple #[.slice q' bs.length c', .int .i64 0]) ∧ SlOf encB 1 w' q' c' bs) ∧ Below W.heap.size W w' := fun bs l hb g B W h => (read_yes h (nm := nB) rfl okB' (one_get _ _ _ _ _ _ _ _) hb).mono (by rintro e w' ⟨⟨q', c', he, ho⟩, hb⟩; exact ⟨⟨q', c', he, ho.ls⟩, hb⟩)
  have a9 : ∀ (bs : List UInt8) (l : Nat) (g B : Nat) (W : World), DkAt B W g (one nB bs l 1 0 false 0 0) → Calls Try.prog 13 #[.pointer (some ⟨g, 0, none⟩), .string ⟨#[97]⟩] W fun e w' => e = .returned (.tuple #[.slice none 0 0, .int .i64 41]) ∧ Below W.heap.size W w' := fun bs l g B W h => by
    have he : errE (one nB bs l 1 0 false 0 0) nA = 41 := by
      unfold errE
      rw [one_other neAB, okA]
      rfl
    have := read_no h (nm := nA) (by rw [he]; decide)
    rw [he] at this
    exact this
  cases sy with
  | true =>
    obtain ⟨BS, hBS⟩ : ∃ BS, (foundF ⟨fresh, fresh.length⟩ (chAt cs 0)).bytes = BS := ⟨_, rfl⟩
    obtain ⟨LL, hLL⟩ : ∃ LL, (foundF ⟨fresh, fresh.length⟩ (chAt cs 0)).lasts = LL := ⟨_, rfl⟩
    have hkk := kept_le (fl := ⟨fresh, fresh.length⟩) (by simp) (chAt cs 0)
    have hBS2 : BS = fresh.take (keptN ⟨fresh, fresh.length⟩ (chAt cs 0)) := hBS.symm
    have hka := kept_all (fl := ⟨fresh, fresh.length⟩) rfl (chAt cs 0)
    obtain ⟨K, hK⟩ : ∃ K, BS.length = K := ⟨_, rfl⟩
    have hKf : K ≤ fresh.length := by rw [← hK, hBS2, List.length_take]; omega
    have hBK : BS = fresh.take K := by
      rw [← hK, hBS2, List.length_take, Nat.min_eq_left hkk]
    have hKK : K = fresh.length := by rw [← hK, hBS2, List.length_take]; simp only at hka; omega
    have hKK2 : ((K : Int) == (fresh.length : Int)) = true := by rw [hKK]; simp
    clear hKK hka
    have a7' := a7 fresh.length 3
    rw [hBS, hLL] at a7'
    have a8' := a8 BS LL (by omega)
    have a9' := a9 BS LL
    rw [hK] at a8'
    have a4' := a4 fresh.length 3
    have a5' := a5 fresh.length 3 (by decide)
    have a6' := a6 fresh.length 3
    simp only [Nat.sub_self] at a4' a6'
    have c1 := s1.2.1
    have kk0 : (0 : Int) ≤ (K : Int) := by omega
    have kk1 : (K : Int) ≤ (k1 : Int) := by omega
    have kk2 : K ≤ k1 := by omega
    have kk3 : (K : Int) ≤ (fresh.length : Int) := by omega
    have HS0 := hide s0
    have HS1 := hide s1
    have HS2 := hide s2
    have HBK := hide hBK
    have HK := hide hK
    have hcv2 : ∀ W : World, RowKit.Below w.heap.size w W → (convert 30 9 (.slice q1 K k1)).run Try.prog W = .ok (.string ⟨BS.toArray⟩) W := fun W hW => by
      have := conv_sl (sl_take (s1.below hW) K)
      rw [← hBK, hK] at this
      exact this
    have HCV2 := hide hcv2
    clear s0 s1 s2 hBK hK hBS2 hBS hLL hkk hcv2 c1
    go_enter Try.func6, Try.ntmps6
    go_wp2_with (first
      | (go_at_call 7; refine hf.mono ?_; rintro e w1 ⟨rfl, b1⟩; have B1 := hide b1; have z1 := b1.size; have T0 := hide ((unhide HS0).below b1); have T1 := hide ((unhide HS1).below b1); have T2 := hide ((unhide HS2).below b1); have HPG : Hid (0 < cs.length → ∀ b off, q2 = some ⟨b, off, none⟩ → b ≠ w1.heap.size + 1) := hide (fun h0 b off hq => by obtain ⟨b', off', hq', hb', _⟩ := (unhide HS2).2.2.2 h0; rw [hq] at hq'; cases hq'; omega); clear b1)
      | (go_at_call 8; (with_reducible refine (hN w1).mono ?_); rintro e w2 ⟨rfl, d2, b2⟩; have D2 := hide d2; have B2 := hide b2; have z2 := b2.size; clear d2 b2)
      | (go_at_call 10; (with_reducible refine (a1 _ _ w2 (unhide D2) z2 ((unhide T0).below (unhide B2))).mono ?_); rintro e w3 ⟨rfl, d3, b3⟩; have D3 := hide d3; have B3 := hide ((unhide B2).trans b3); have z3 := (unhide B3).size; clear d3 b3)
      | (go_at_call 10; (with_reducible refine (a2 _ _ w3 (unhide D3) z3 ((unhide T1).below (unhide B3))).mono ?_); rintro e w4 ⟨rfl, d4, b4⟩; have D4 := hide d4; have B4 := hide ((unhide B3).trans b4); have z4 := (unhide B4).size; clear d4 b4)
      | (go_at_call 11; (with_reducible refine (a3 _ _ w4 (unhide D4) z4).mono ?_); rintro e w5 ⟨rfl, d5, b5⟩; have D5 := hide d5; have B5 := hide ((unhide B4).trans b5); have z5 := (unhide B5).size; clear d5 b5)
      | (go_at_call 14; (with_reducible refine (a4' _ _ w5 (unhide D5)).mono ?_); rintro e w6 ⟨rfl, b6⟩; have D6 := hide ((unhide D5).below b6); have B6 := hide ((unhide B5).trans (b6.mono z5)); have z6 := (unhide B6).size; clear b6)
      | (go_at_call 17; (with_reducible refine (a5' _ _ w6 (unhide D6) z6).mono ?_); rintro e w7 ⟨rfl, d7, b7⟩; have D7 := hide d7; have B7 := hide ((unhide B6).trans b7); have z7 := (unhide B7).size; clear d7 b7)
      | (go_at_call 14; (with_reducible refine (a6' _ _ w7 (unhide D7)).mono ?_); rintro e w8 ⟨rfl, b8⟩; have D8 := hide ((unhide D7).below b8); have B8 := hide ((unhide B7).trans (b8.mono z7)); have z8 := (unhide B8).size; clear b8)
      | (go_at_call 12; (with_reducible refine (a7' _ _ w8 (unhide D8) z8 ((unhide T2).below (unhide B8)) (unhide HPG)).mono ?_); rintro e w9 ⟨⟨gf, rfl, d9⟩, b9⟩; have D9 := hide d9; have B9 := hide ((unhide B8).trans b9); have z9 := (unhide B9).size; clear d9 b9)
      | (go_at_call 13; (with_reducible refine (a8' _ _ w9 (unhide D9)).mono ?_); rintro e w10 ⟨⟨q10, c10, rfl, s10⟩, b10⟩; have S10 := hide s10; have D10 := hide ((unhide D9).below b10); have B10 := hide ((unhide B9).trans (b10.mono z9)); have z10 := (unhide B10).size; clear s10 b10)
      | (go_at_call 13; (with_reducible refine (a9' _ _ w10 (unhide D10)).mono ?_); rintro e w11 ⟨rfl, b11⟩; have S11 := hide ((unhide S10).below b11); have B11 := hide ((unhide B10).trans (b11.mono z10)); clear b11))
    have hb11 : RowKit.Below w.heap.size w w11 := (unhide B1).trans ((unhide B11).mono z1)
    have q1c := fun (d : Nat) (os : Array Obj) => unhide HCV2 (grow (redrawn w11 d) os) (hb11.trans ((below_regrown w11 d os).mono hb11.size))
    have q2c : ∀ (d : Nat) (os : Array Obj), (convert 30 9 (.slice q10 K c10)).run Try.prog (grow (redrawn w11 d) os) = .ok (.string ⟨BS.toArray⟩) (grow (redrawn w11 d) os) := fun d os => by
      have := conv_sl ((unhide S11).below (below_regrown w11 d os))
      rw [unhide HK] at this
      exact this
    have HB11 := hide hb11
    clear hb11
    refine wp_region_quiet_below (by assumption) (by kernel_rfl) ?_
    repeat (go_big_quiet_step (fail))
    refine wpQuiet_nil ?_
    intro _ hw'
    obtain ⟨⟨dq, osq⟩, hw''⟩ := hw'
    subst hw''
    go_wp2
    go_ret
    exact ⟨rfl, (unhide HB11).trans ((below_regrown _ _ _).mono (unhide HB11).size)⟩
  | false =>
    obtain ⟨BS, hBS⟩ : ∃ BS, (foundF ⟨fresh, 0⟩ (chAt cs 0)).bytes = BS := ⟨_, rfl⟩
    obtain ⟨LL, hLL⟩ : ∃ LL, (foundF ⟨fresh, 0⟩ (chAt cs 0)).lasts = LL := ⟨_, rfl⟩
    have hkk := kept_le (fl := ⟨fresh, 0⟩) (by simp) (chAt cs 0)
    have hBS2 : BS = fresh.take (keptN ⟨fresh, 0⟩ (chAt cs 0)) := hBS.symm
    
    obtain ⟨K, hK⟩ : ∃ K, BS.length = K := ⟨_, rfl⟩
    have hKf : K ≤ fresh.length := by rw [← hK, hBS2, List.length_take]; omega
    have hBK : BS = fresh.take K := by
      rw [← hK, hBS2, List.length_take, Nat.min_eq_left hkk]
    
    have a7' := a7 0 2
    rw [hBS, hLL] at a7'
    have a8' := a8 BS LL (by omega)
    have a9' := a9 BS LL
    rw [hK] at a8'
    have a4' := a4 0 2
    have a5' := a5 0 2 (by decide)
    have a6' := a6 0 2
    simp only [Nat.sub_zero] at a4' a6'
    have c1 := s1.2.1
    have kk0 : (0 : Int) ≤ (K : Int) := by omega
    have kk1 : (K : Int) ≤ (k1 : Int) := by omega
    have kk2 : K ≤ k1 := by omega
    have kk3 : (K : Int) ≤ (fresh.length : Int) := by omega
    have HS0 := hide s0
    have HS1 := hide s1
    have HS2 := hide s2
    have HBK := hide hBK
    have HK := hide hK
    have hcv2 : ∀ W : World, RowKit.Below w.heap.size w W → (convert 30 9 (.slice q1 K k1)).run Try.prog W = .ok (.string ⟨BS.toArray⟩) W := fun W hW => by
      have := conv_sl (sl_take (s1.below hW) K)
      rw [← hBK, hK] at this
      exact this
    have HCV2 := hide hcv2
    clear s0 s1 s2 a3 hBK hK hBS2 hBS hLL hkk hcv2 c1
    go_enter Try.func6, Try.ntmps6
    go_wp2_with (first
      | (go_at_call 7; refine hf.mono ?_; rintro e w1 ⟨rfl, b1⟩; have B1 := hide b1; have z1 := b1.size; have T0 := hide ((unhide HS0).below b1); have T1 := hide ((unhide HS1).below b1); have T2 := hide ((unhide HS2).below b1); have HPG : Hid (0 < cs.length → ∀ b off, q2 = some ⟨b, off, none⟩ → b ≠ w1.heap.size + 1) := hide (fun h0 b off hq => by obtain ⟨b', off', hq', hb', _⟩ := (unhide HS2).2.2.2 h0; rw [hq] at hq'; cases hq'; omega); clear b1)
      | (go_at_call 8; (with_reducible refine (hN w1).mono ?_); rintro e w2 ⟨rfl, d2, b2⟩; have D2 := hide d2; have B2 := hide b2; have z2 := b2.size; clear d2 b2)
      | (go_at_call 10; (with_reducible refine (a1 _ _ w2 (unhide D2) z2 ((unhide T0).below (unhide B2))).mono ?_); rintro e w3 ⟨rfl, d3, b3⟩; have D3 := hide d3; have B3 := hide ((unhide B2).trans b3); have z3 := (unhide B3).size; clear d3 b3)
      | (go_at_call 10; (with_reducible refine (a2 _ _ w3 (unhide D3) z3 ((unhide T1).below (unhide B3))).mono ?_); rintro e w4 ⟨rfl, d4, b4⟩; have D4 := hide d4; have B4 := hide ((unhide B3).trans b4); have z4 := (unhide B4).size; clear d4 b4)
      | (go_at_call 14; (with_reducible refine (a4' _ _ w4 (unhide D4)).mono ?_); rintro e w6 ⟨rfl, b6⟩; have D6 := hide ((unhide D4).below b6); have B6 := hide ((unhide B4).trans (b6.mono z4)); have z6 := (unhide B6).size; clear b6)
      | (go_at_call 17; (with_reducible refine (a5' _ _ w6 (unhide D6) z6).mono ?_); rintro e w7 ⟨rfl, d7, b7⟩; have D7 := hide d7; have B7 := hide ((unhide B6).trans b7); have z7 := (unhide B7).size; clear d7 b7)
      | (go_at_call 14; (with_reducible refine (a6' _ _ w7 (unhide D7)).mono ?_); rintro e w8 ⟨rfl, b8⟩; have D8 := hide ((unhide D7).below b8); have B8 := hide ((unhide B7).trans (b8.mono z7)); have z8 := (unhide B8).size; clear b8)
      | (go_at_call 12; (with_reducible refine (a7' _ _ w8 (unhide D8) z8 ((unhide T2).below (unhide B8)) (unhide HPG)).mono ?_); rintro e w9 ⟨⟨gf, rfl, d9⟩, b9⟩; have D9 := hide d9; have B9 := hide ((unhide B8).trans b9); have z9 := (unhide B9).size; clear d9 b9)
      | (go_at_call 13; (with_reducible refine (a8' _ _ w9 (unhide D9)).mono ?_); rintro e w10 ⟨⟨q10, c10, rfl, s10⟩, b10⟩; have S10 := hide s10; have D10 := hide ((unhide D9).below b10); have B10 := hide ((unhide B9).trans (b10.mono z9)); have z10 := (unhide B10).size; clear s10 b10)
      | (go_at_call 13; (with_reducible refine (a9' _ _ w10 (unhide D10)).mono ?_); rintro e w11 ⟨rfl, b11⟩; have S11 := hide ((unhide S10).below b11); have B11 := hide ((unhide B10).trans (b11.mono z10)); clear b11))
    have hb11 : RowKit.Below w.heap.size w w11 := (unhide B1).trans ((unhide B11).mono z1)
    have q1c := fun (d : Nat) (os : Array Obj) => unhide HCV2 (grow (redrawn w11 d) os) (hb11.trans ((below_regrown w11 d os).mono hb11.size))
    have q2c : ∀ (d : Nat) (os : Array Obj), (convert 30 9 (.slice q10 K c10)).run Try.prog (grow (redrawn w11 d) os) = .ok (.string ⟨BS.toArray⟩) (grow (redrawn w11 d) os) := fun d os => by
      have := conv_sl ((unhide S11).below (below_regrown w11 d os))
      rw [unhide HK] at this
      exact this
    have HB11 := hide hb11
    clear hb11
    refine wp_region_quiet_below (by assumption) (by kernel_rfl) ?_
    repeat (go_big_quiet_step (fail))
    refine wpQuiet_nil ?_
    intro _ hw'
    obtain ⟨⟨dq, osq⟩, hw''⟩ := hw'
    subst hw''
    go_wp2
    go_ret
    exact ⟨rfl, (unhide HB11).trans ((below_regrown _ _ _).mono (unhide HB11).size)⟩
end Go.Proofs.Ytakjbkgngmkpcaa
