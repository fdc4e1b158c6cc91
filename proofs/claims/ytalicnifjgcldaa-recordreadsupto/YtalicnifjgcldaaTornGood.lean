/- RecordTorn answers true: where head and changes may be. -/
import Derived.Test.YtalicnifjgcldaaTornLaw
namespace Go.Proofs.Ytalicnifjgcldaa
open Go.RowKit Go.Sort Go.Shelf

theorem head_len (n : Nat) (h : n ≤ 1099511627777) : (headB n).length ≤ 20 := by unfold headB; rw [seal_len]; have := vint_len9 n (by omega); simp; omega
theorem enc_yes (q : Option Addr) (cp : Nat) (cs : List Ch) (w : World) (h : SlOf encC 3 w q cp cs) (hn : cs.length ≤ 100000000) (hm : ∀ c ∈ cs, MayB c) :
    Calls Try.prog 10 #[.slice q cs.length cp] w fun e w' => (∃ q cap, e = .returned (.tuple #[.slice q (encs cs).length cap, .int .i64 0]) ∧ OwnK encB 5 1 w.heap.size w' q cap (encs cs)) ∧ Below w.heap.size w w' := by
  refine (encode_any q cp cs w h (by omega)).mono ?_
  rintro e w' ⟨hE, hB⟩
  refine ⟨?_, hB⟩
  rcases hE with ⟨_, q, cap, rfl, ho⟩ | ⟨hn, _⟩
  · exact ⟨q, cap, rfl, ho⟩
  · exact absurd hm hn
set_option maxHeartbeats 400000 in
set_option maxRecDepth 100000 in
theorem torn_short (q : Option Addr) (cp : Nat) (cs : List Ch) (n : Nat) (cut : Int) (w : World) (h : SlOf encC 3 w q cp cs) (hn : cs.length ≤ 100000000) (h1 : 1 ≤ n) (h2 : n ≤ 1099511627777) (hm : ∀ c ∈ cs, MayB c) (U k : Nat) (hU : IntKind.u64.wrap cut = (U : Int)) (hk : U % ((headB n).length + (encs cs).length + 1) = k) (hkh : k < (headB n).length) :
    Calls Try.prog 7 #[.slice q cs.length cp, .int .i64 (n : Int), .int .i64 cut] w fun e w' => e = .returned (.bool true) ∧ Below w.heap.size w w' := by
  have hf := fixed_any w
  have hh := fun W : World => head_yes n h1 h2 W
  have hen := fun (W : World) (hW : SlOf encC 3 W q cp cs) => enc_yes q cp cs W hW hn hm
  have hel := encs_len cs hm
  have hhl := head_len n h2
  have hto := fun (q : Option Addr) (c : Nat) (W : World) (hW : SlOf encB 1 W q c (headB n ++ encs cs)) => torn_no q c n (encs cs) k W h1 h2 hW hkh
  obtain ⟨L, hL⟩ : ∃ L, (headB n).length = L := ⟨_, rfl⟩
  obtain ⟨E, hE⟩ : ∃ E, (encs cs).length = E := ⟨_, rfl⟩
  obtain ⟨N, hN⟩ : ∃ N, L + E = N := ⟨_, rfl⟩
  obtain ⟨D, hD⟩ : ∃ D, N + 1 = D := ⟨_, rfl⟩
  simp only [hL] at hh hkh hk hhl
  simp only [hE] at hen hk hel
  rw [hN, hD] at hk
  have hrem : (U : Int).tmod (D : Int) = (k : Int) := by rw [Int.tmod_eq_emod_of_nonneg (by omega), ← hk]; omega
  have hDw : IntKind.u64.wrap ((N : Int) + 1) = (D : Int) := by rw [IntKind.wrap_u64]; omega
  have hkw := wrap_nat k (by omega)
  have hDn : ¬ D = 0 := by omega
  have hNI : (N : Int) ≤ 413000000020 := by omega
  have hkL : (k : Int) < (L : Int) := by omega
  have hkN : k ≤ N := by omega
  have hLL := hide hL
  have hEE := hide hE
  have hNN := hide hN
  have HS := hide h
  clear h hL hE hN hD hk hel hm hn h1 h2
  go_enter Try.func7, Try.ntmps7
  go_wp2_with (first
    | (go_at_call 9; refine hf.mono ?_; rintro e w1 ⟨rfl, b1⟩; have B1 := hide b1; have S1 := hide ((unhide HS).below b1); clear b1)
    | (go_at_call 12; refine (hh _).mono ?_; rintro e w2 ⟨⟨q2, c2, rfl, o2⟩, b2⟩; have S2 := hide ((unhide S1).below b2); have O2 := hide o2; have B2 := hide ((unhide B1).trans (b2.mono (unhide B1).size)); clear b2 o2)
    | (go_at_call 10; refine (hen _ (unhide S2)).mono ?_; rintro e w3 ⟨⟨q3, c3, rfl, o3⟩, b3⟩; have O3 := hide o3.ls; have P3 := hide ((unhide O2).ls.below b3); have B3 := hide ((unhide B2).trans (b3.mono (unhide B2).size)); clear b3 o3)
    | (at_builtin; refine wpList_app rowB rfl (.tmp 41) (.tmp 42) rfl w3.heap.size (some ⟨w3.heap.size, 0, none⟩) 0 [] q2 c2 (headB n) 0 L L rfl (unhide hLL) (by simp) rfl rfl (OwnK.made _ _ (Nat.le_refl _)) ((unhide P3).below ((Below.refl _ _).alloc (Nat.le_refl _) _)).src (by unfold maxLen; omega) (by omega) (by simp) ?_; intro q4 c4 w4 o4 b4 _ _; have O4 := hide o4; have B4 := hide (((Below.refl w3.heap.size w3).alloc (Nat.le_refl _) (.cells #[] 5)).trans b4); clear o4 b4)
    | (at_builtin; refine wpList_app rowB rfl (.tmp 43) (.tmp 44) rfl w3.heap.size q4 c4 ([] ++ headB n) q3 c3 (encs cs) L E N (unhide hLL) (unhide hEE) (unhide hNN) rfl rfl (unhide O4) ((unhide O3).below (unhide B4)).src (by unfold maxLen; omega) (by omega) (unhide B4).size ?_; intro q5 c5 w5 o5 b5 _ _; have hc5 := o5.ls.2.1; have c5I : (k : Int) ≤ (c5 : Int) := (by simp only [List.nil_append, List.length_append, unhide hLL, unhide hEE] at hc5; omega); have c5N : k ≤ c5 := (by omega); have O5 := hide o5.ls; have B5 := hide ((unhide B4).trans b5); clear o5 b5 hc5)
    | (go_at_call 24; refine (hto _ _ _ (unhide O5)).mono ?_; rintro e w6 ⟨rfl, b6⟩; have B6 := hide ((unhide B5).trans (b6.mono (unhide B5).size)); clear b6))
  go_ret
  exact ⟨rfl, (unhide B3).trans ((unhide B6).mono (unhide B3).size)⟩
set_option maxHeartbeats 400000 in
set_option maxRecDepth 100000 in
theorem torn_long (q : Option Addr) (cp : Nat) (cs : List Ch) (n : Nat) (cut : Int) (w : World) (h : SlOf encC 3 w q cp cs) (hn : cs.length ≤ 100000000) (h1 : 1 ≤ n) (h2 : n ≤ 1099511627777) (hm : ∀ c ∈ cs, MayB c) (U k : Nat) (hU : IntKind.u64.wrap cut = (U : Int)) (hk : U % ((headB n).length + (encs cs).length + 1) = k) (hkh : ¬ k < (headB n).length) :
    Calls Try.prog 7 #[.slice q cs.length cp, .int .i64 (n : Int), .int .i64 cut] w fun e w' => e = .returned (.bool true) ∧ Below w.heap.size w w' := by
  have hf := fixed_any w
  have hh := fun W : World => head_yes n h1 h2 W
  have hen := fun (W : World) (hW : SlOf encC 3 W q cp cs) => enc_yes q cp cs W hW hn hm
  have hel := encs_len cs hm
  have hhl := head_len n h2
  have hkk : k ≤ (headB n).length + (encs cs).length := by have := Nat.mod_lt U (show 0 < (headB n).length + (encs cs).length + 1 by omega); omega
  have hto := fun (q : Option Addr) (c : Nat) (W : World) (hW : SlOf encB 1 W q c (headB n ++ encs cs)) => torn_yes q c n cs k W h1 h2 hm hW hkh hkk (by omega)
  have hfi := fit_in cs (k - (headB n).length)
  have hfo := fit_out cs (k - (headB n).length)
  have hfl := fit_le cs (k - (headB n).length)
  obtain ⟨L, hL⟩ : ∃ L, (headB n).length = L := ⟨_, rfl⟩
  obtain ⟨E, hE⟩ : ∃ E, (encs cs).length = E := ⟨_, rfl⟩
  obtain ⟨N, hN⟩ : ∃ N, L + E = N := ⟨_, rfl⟩
  obtain ⟨D, hD⟩ : ∃ D, N + 1 = D := ⟨_, rfl⟩
  simp only [hL] at hh hkh hk hhl hto hfi hfo hfl hkk
  simp only [hE] at hen hk hel hkk
  obtain ⟨J, hJ⟩ : ∃ J, fit cs (k - L) = J := ⟨_, rfl⟩
  simp only [hJ] at hto hfi hfo hfl
  obtain ⟨G, hG⟩ : ∃ G, L + (encs (cs.take J)).length = G := ⟨_, rfl⟩
  simp only [hG] at hto
  rw [hN, hD] at hk
  have hrem : (U : Int).tmod (D : Int) = (k : Int) := by rw [Int.tmod_eq_emod_of_nonneg (by omega), ← hk]; omega
  have hDw : IntKind.u64.wrap ((N : Int) + 1) = (D : Int) := by rw [IntKind.wrap_u64]; omega
  have hkw := wrap_nat k (by omega)
  have hDn : ¬ D = 0 := by omega
  have hNI : (N : Int) ≤ 413000000020 := by omega
  have hkL : ¬ (k : Int) < (L : Int) := by omega
  have hkN : k ≤ N := by omega
  have hLL := hide hL
  have hEE := hide hE
  have hNN := hide hN
  have HS := hide h
  have HGG := hide hG
  have HM := hide hm
  have HFI := hide hfi
  have HFO := hide hfo
  have HH1 := hide h1
  have HNL := hide hN
  clear h hL hE hN hD hk hel hm h1 h2 hG hfi hfo hJ
  go_enter Try.func7, Try.ntmps7
  go_wp2_with (first
    | (go_at_call 9; refine hf.mono ?_; rintro e w1 ⟨rfl, b1⟩; have B1 := hide b1; have S1 := hide ((unhide HS).below b1); clear b1)
    | (go_at_call 12; refine (hh _).mono ?_; rintro e w2 ⟨⟨q2, c2, rfl, o2⟩, b2⟩; have S2 := hide ((unhide S1).below b2); have O2 := hide o2; have B2 := hide ((unhide B1).trans (b2.mono (unhide B1).size)); clear b2 o2)
    | (go_at_call 10; refine (hen _ (unhide S2)).mono ?_; rintro e w3 ⟨⟨q3, c3, rfl, o3⟩, b3⟩; have O3 := hide o3.ls; have P3 := hide ((unhide O2).ls.below b3); have B3 := hide ((unhide B2).trans (b3.mono (unhide B2).size)); clear b3 o3)
    | (at_builtin; refine wpList_app rowB rfl (.tmp 41) (.tmp 42) rfl w3.heap.size (some ⟨w3.heap.size, 0, none⟩) 0 [] q2 c2 (headB n) 0 L L rfl (unhide hLL) (by simp) rfl rfl (OwnK.made _ _ (Nat.le_refl _)) ((unhide P3).below ((Below.refl _ _).alloc (Nat.le_refl _) _)).src (by unfold maxLen; omega) (by omega) (by simp) ?_; intro q4 c4 w4 o4 b4 _ _; have O4 := hide o4; have B4 := hide (((Below.refl w3.heap.size w3).alloc (Nat.le_refl _) (.cells #[] 5)).trans b4); clear o4 b4)
    | (at_builtin; refine wpList_app rowB rfl (.tmp 43) (.tmp 44) rfl w3.heap.size q4 c4 ([] ++ headB n) q3 c3 (encs cs) L E N (unhide hLL) (unhide hEE) (unhide hNN) rfl rfl (unhide O4) ((unhide O3).below (unhide B4)).src (by unfold maxLen; omega) (by omega) (unhide B4).size ?_; intro q5 c5 w5 o5 b5 _ _; have hc5 := o5.ls.2.1; have c5I : (k : Int) ≤ (c5 : Int) := (by simp only [List.nil_append, List.length_append, unhide hLL, unhide hEE] at hc5; omega); have c5N : k ≤ c5 := (by omega); have O5 := hide o5.ls; have B5 := hide ((unhide B4).trans b5); clear o5 b5 hc5)
    | (go_at_call 24; refine (hto _ _ _ (unhide O5)).mono ?_; rintro e w6 ⟨⟨q6, c6, rfl, o6⟩, b6⟩; have O6 := hide o6; have B6 := hide ((unhide B3).trans (((unhide B5).trans (b6.mono (unhide B5).size)).mono (unhide B3).size)); clear b6 o6))
  go_loopw [17, 18, 86] (fun v17 v18 v86 wr => ∃ (i A : Nat), i ≤ J ∧ v17 = .int .i64 (A : Int) ∧ Hid (A = L + (encs (cs.take i)).length) ∧ v18 = .int .i64 (i : Int) ∧ v86 = .int .i64 (i : Int) ∧ Hid (Below w6.heap.size w6 wr)) (fun _ _ v86 _ => cs.length - (intOf v86).toNat)
  case atStart => exact ⟨0, L, Nat.zero_le _, rfl, hide (by simp [encs]), rfl, rfl, hide (Below.refl _ _)⟩
  case round =>
    obtain ⟨i, A, hi, rfl, HA, rfl, rfl, HB⟩ := hrel
    have hsB := (unhide HB).size
    have hs6 := (unhide B6).size
    have hA2 : A ≤ k := by
      have h3 := unhide HFI; have h4 := encs_mono cs hi; have h5 := unhide HA; omega
    by_cases hlt : i < cs.length
    · obtain ⟨x, hx, _⟩ := get_at hlt
      have hmx : MayB x := unhide HM x (List.mem_of_getElem? hx)
      have hol := one_len x hmx
      obtain ⟨b, off, hq, hb, c0, c1, c2⟩ := changeAt ((unhide HS).below (below_sub (unhide B6) (unhide HB))) hx
      subst hq
      have hsn : (encs (cs.take (i + 1))).length = (encs (cs.take i)).length + (oneB x).length := by rw [take_snoc_of hx, encs_snoc, List.length_append]
      have ki0 : (0 : Int) ≤ (i : Int) := by omega
      have ki1 : (i : Int) < (cs.length : Int) := by omega
      obtain ⟨Z, hZ⟩ : ∃ Z, wr.alloc (.cells #[.int .i64 x.kind, .int .i64 x.id, .string x.text] 32) = Z := ⟨_, rfl⟩
      have bZ : Below wr.heap.size wr Z := by rw [← hZ]; exact (Below.refl _ _).alloc (Nat.le_refl _) _
      have bk : Z.heap[wr.heap.size]? = some (.cells #[.int .i64 x.kind, .int .i64 x.id, .string x.text] 32 (0, 0)) := by rw [← hZ]; exact heap_alloc_new _ _
      obtain ⟨⟨d0, d1, d2⟩, _⟩ := cells3 bk
      have hen1 := enc_one x Z
      have BZ := hide bZ
      have HMX := hide hmx
      obtain ⟨T, hT⟩ : ∃ T, (oneB x).length = T := ⟨_, rfl⟩
      simp only [hT] at hen1
      have HSN := hide hsn
      have HT := hide hT
      rw [hT] at hol
      by_cases hij : i < J
      · have hle : A + T ≤ k := by
          have h3 := unhide HFI; have h4 := encs_mono cs (show i + 1 ≤ J by omega); have h5 := unhide HA; omega
        obtain ⟨AT, hAT⟩ : ∃ AT, A + T = AT := ⟨_, rfl⟩
        have hAI : (A : Int) + (T : Int) = (AT : Int) := by omega
        have hleI : ¬ (k : Int) < (AT : Int) := by omega
        have hATw : (AT : Int) ≤ 413000000020 := by omega
        have HAT := hide hAT
        clear hf hh hen hto bZ bk hx hmx hsn hT hAT hle
        go_wp2_with (go_at_call 10; refine hen1.mono ?_; rintro e w7 ⟨hE, b7⟩; rcases hE with ⟨_, q7, c7, rfl, o7⟩ | ⟨hn, _⟩; rotate_left; exact absurd (unhide HMX) hn; have B7 := hide ((unhide HB).trans ((below_sub (unhide BZ) b7).mono hsB)); clear b7 o7)
        go_roundw
        case rel => exact ⟨i + 1, AT, by omega, rfl, hide (by rw [unhide HSN, unhide HT]; have := unhide HA; have := unhide HAT; omega), by go_num, by go_num, B7⟩
        case measure => simp [intOf]; omega
      · obtain rfl : i = J := by omega
        have hle : k < A + T := by
          have h3 := unhide HFO hlt; have h5 := unhide HA; omega
        obtain ⟨AT, hAT⟩ : ∃ AT, A + T = AT := ⟨_, rfl⟩
        have hAI : (A : Int) + (T : Int) = (AT : Int) := by omega
        have hleI : (k : Int) < (AT : Int) := by omega
        have hATw : (AT : Int) ≤ 413000005020 := by omega
        have hAG : A = G := by have h5 := unhide HA; have h6 := unhide HGG; omega
        subst hAG
        have hcpI : (i : Int) ≤ (cp : Int) := by have := (unhide HS).2.1; omega
        have hcpN : i ≤ cp := by omega
        have hpr := fun (W : World) (hW : Below w6.heap.size w6 W) => sameC_any q6 (some ⟨b, off, none⟩) c6 cp (cs.take i) (cs.take i) W ((unhide O6).below hW) (sl_preC (((unhide HS).below (unhide B6)).below hW) i (by omega)) (by simp; omega) (by simp; omega)
        rw [decide_eq_true rfl, show (cs.take i).length = i by simp; omega] at hpr
        clear hf hh hen hto bZ bk hx hmx hsn hT hAT hle hij
        go_wp2_with (first
          | (go_at_call 10; refine hen1.mono ?_; rintro e w7 ⟨hE, b7⟩; rcases hE with ⟨_, q7, c7, rfl, o7⟩ | ⟨hn, _⟩; rotate_left; exact absurd (unhide HMX) hn; have B7 := hide ((unhide HB).trans ((below_sub (unhide BZ) b7).mono hsB)); clear b7 o7)
          | (go_at_call 26; refine (hpr _ (unhide B7)).mono ?_; rintro e w8 ⟨rfl, b8⟩; have B8 := hide ((unhide B7).trans (b8.mono (unhide B7).size)); clear b8))
        go_ret
        exact ⟨rfl, (unhide B6).trans ((unhide B8).mono hs6)⟩
    · obtain rfl : i = J := by omega
      obtain rfl : i = cs.length := by omega
      have ki1 : ¬ (cs.length : Int) < (cs.length : Int) := by omega
      have hAG : A = G := by have h5 := unhide HA; have h6 := unhide HGG; omega
      subst hAG
      have hcpI : (cs.length : Int) ≤ (cp : Int) := by have := (unhide HS).2.1; omega
      have hcpN : cs.length ≤ cp := by omega
      have hpr := fun (W : World) (hW : Below w6.heap.size w6 W) => sameC_any q6 q c6 cp (cs.take cs.length) (cs.take cs.length) W ((unhide O6).below hW) (sl_preC (((unhide HS).below (unhide B6)).below hW) cs.length (by omega)) (by simp; omega) (by simp; omega)
      rw [decide_eq_true rfl, List.take_length] at hpr
      clear hf hh hen hto
      go_wp2_with (go_at_call 26; refine (hpr _ (unhide HB)).mono ?_; rintro e w8 ⟨rfl, b8⟩; have B8 := hide ((unhide HB).trans (b8.mono hsB)); clear b8)
      go_ret
      exact ⟨rfl, (unhide B6).trans ((unhide B8).mono hs6)⟩
theorem torn_law (q : Option Addr) (cp : Nat) (cs : List Ch) (next cut : Int) (w : World) (h : SlOf encC 3 w q cp cs) (hn : cs.length ≤ 100000000) :
    Calls Try.prog 7 #[.slice q cs.length cp, .int .i64 next, .int .i64 cut] w fun e w' => e = .returned (.bool true) ∧ Below w.heap.size w w' := by
  by_cases hb : (1 ≤ next ∧ next ≤ 1099511627777) ∧ ∀ c ∈ cs, MayB c
  · obtain ⟨⟨h1, h2⟩, hm⟩ := hb
    obtain ⟨n, rfl⟩ := Int.eq_ofNat_of_zero_le (show 0 ≤ next by omega)
    obtain ⟨U, hU⟩ := wrapU cut
    by_cases hk : U % ((headB n).length + (encs cs).length + 1) < (headB n).length
    · exact torn_short q cp cs n cut w h hn (by omega) (by omega) hm U _ hU rfl hk
    · exact torn_long q cp cs n cut w h hn (by omega) (by omega) hm U _ hU rfl hk
  · exact torn_bad q cp cs next cut w h hn hb
end Go.Proofs.Ytalicnifjgcldaa
