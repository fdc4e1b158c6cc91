/- RecordBack answers true. -/
import Derived.Test.YtalicnifjgcldaaBackP
namespace Go.Proofs.Ytalicnifjgcldaa
open Go.RowKit Go.Sort Go.Shelf

theorem slice_lh (q : Option Addr) (c N L G : Nat) (h1 : L ≤ G) (h2 : G ≤ c) (W : World) : (Instr.sliceAt 24 (.slice q N c) (some (.int .i64 (L : Int))) (some (.int .i64 (G : Int))) none).run Try.prog W = .ok (.slice (cutA q c L) (G - L) (c - L)) W := by
  have u := Try.underlying24
  have g1 : (L : Int) ≤ (G : Int) := by omega
  have g2 : (G : Int) ≤ (c : Int) := by omega
  by_cases hc : c = L
  · subst hc
    rw [cutA_same]
    go_simp
  · rw [cutA_ne q hc]
    go_simp
theorem slice_l (q : Option Addr) (c N L : Nat) (h1 : L ≤ N) (h2 : N ≤ c) (W : World) : (Instr.sliceAt 24 (.slice q N c) (some (.int .i64 (L : Int))) none none).run Try.prog W = .ok (.slice (cutA q c L) (N - L) (c - L)) W := by
  have u := Try.underlying24
  have g1 : (L : Int) ≤ (N : Int) := by omega
  have g2 : (N : Int) ≤ (c : Int) := by omega
  by_cases hc : c = L
  · subst hc
    rw [cutA_same]
    go_simp
  · rw [cutA_ne q hc]
    go_simp
theorem enc_yes2 (q : Option Addr) (cp : Nat) (cs : List Ch) (w : World) (h : SlOf encC 3 w q cp cs) (hn : cs.length ≤ 10000000000) (hm : ∀ c ∈ cs, MayB c) :
    Calls Try.prog 10 #[.slice q cs.length cp] w fun e w' => (∃ q cap, e = .returned (.tuple #[.slice q (encs cs).length cap, .int .i64 0]) ∧ SlOf encB 1 w' q cap (encs cs)) ∧ Below w.heap.size w w' := by
  refine (encode_any q cp cs w h hn).mono ?_
  rintro e w' ⟨hE, hB⟩
  refine ⟨?_, hB⟩
  rcases hE with ⟨_, q, cap, rfl, ho⟩ | ⟨hn, _⟩
  · exact ⟨q, cap, rfl, ho.ls⟩
  · exact absurd hm hn
theorem encs_len8 (cs : List Ch) : cs.length * 8 ≤ (encs cs).length := by
  induction cs with
  | nil => simp
  | cons c cs ih => rw [encs_cons, List.length_append]; have := one_len8 c; simp; omega
theorem head_pos (n : Nat) : 5 ≤ (headB n).length := by unfold headB; rw [seal_len]; simp
set_option maxHeartbeats 400000 in
set_option maxRecDepth 100000 in
theorem back_bad (q : Option Addr) (cp : Nat) (cs : List Ch) (next : Int) (p : Option Addr) (cm : Nat) (m : List UInt8) (w : World) (h : SlOf encC 3 w q cp cs) (hn : cs.length ≤ 2000000) (hb : ¬ ((1 ≤ next ∧ next ≤ 1099511627777) ∧ ∀ c ∈ cs, MayB c)) :
    Calls Try.prog 6 #[.slice q cs.length cp, .int .i64 next, .slice p m.length cm] w fun e w' => e = .returned (.bool true) ∧ Below w.heap.size w w' := by
  have hf := fixed_any w
  have hen := fun (W : World) (hW : SlOf encC 3 W q cp cs) => encode_any q cp cs W hW (by omega)
  have HS := hide h
  by_cases hx : 1 ≤ next ∧ next ≤ 1099511627777
  · have hnm : ¬ ∀ c ∈ cs, MayB c := fun hm => hb ⟨hx, hm⟩
    obtain ⟨n, rfl⟩ := Int.eq_ofNat_of_zero_le (show 0 ≤ next by omega)
    have hh := fun W : World => head_yes n (by omega) (by omega) W
    have hp5 := head_pos n
    obtain ⟨L, hL⟩ : ∃ L, (headB n).length = L := ⟨_, rfl⟩
    simp only [hL] at hh hp5
    have hL0 : ¬ L = 0 := by omega
    have hL0i : ((L : Int) == 0) = false := by simp; omega
    clear h hb hL hp5
    go_enter Try.func6, Try.ntmps6
    go_wp2_with (first
      | (go_at_call 9; refine hf.mono ?_; rintro e w1 ⟨rfl, b1⟩; have B1 := hide b1; have S1 := hide ((unhide HS).below b1); clear b1)
      | (go_at_call 12; refine (hh _).mono ?_; rintro e w2 ⟨⟨q2, c2, rfl, o2⟩, b2⟩; have S2 := hide ((unhide S1).below b2); have B2 := hide ((unhide B1).trans (b2.mono (unhide B1).size)); clear b2 o2)
      | (go_at_call 10; refine (hen _ (unhide S2)).mono ?_; rintro e w3 ⟨hE, b3⟩; rcases hE with ⟨hn, _⟩ | ⟨_, rfl⟩; exact absurd hn hnm; have B3 := hide ((unhide B2).trans (b3.mono (unhide B2).size)); clear b3))
    go_ret
    exact ⟨rfl, unhide B3⟩
  · have hh := fun W : World => head_no next hx W
    clear h hb hx
    go_enter Try.func6, Try.ntmps6
    go_wp2_with (first
      | (go_at_call 9; refine hf.mono ?_; rintro e w1 ⟨rfl, b1⟩; have B1 := hide b1; have S1 := hide ((unhide HS).below b1); clear b1)
      | (go_at_call 12; refine (hh _).mono ?_; rintro e w2 ⟨rfl, hw2⟩; obtain rfl := hw2.symm)
      | (go_at_call 10; refine (hen _ (unhide S1)).mono ?_; rintro e w3 ⟨hE, b3⟩; have B3 := hide ((unhide B1).trans (b3.mono (unhide B1).size)); clear b3; rcases hE with ⟨_, q3, c3, rfl, _⟩ | ⟨_, rfl⟩))
    all_goals
      go_wp2
      go_ret
      exact ⟨rfl, unhide B3⟩
set_option maxHeartbeats 1000000 in
set_option maxRecDepth 100000 in
theorem back_good (q : Option Addr) (cp : Nat) (cs : List Ch) (n : Nat) (p : Option Addr) (cm : Nat) (m : List UInt8) (w : World) (h : SlOf encC 3 w q cp cs) (hmo : SlOf encB 1 w p cm m) (hn : cs.length ≤ 2000000) (hml : m.length ≤ 2000000) (h1 : 1 ≤ n) (h2 : n ≤ 1099511627777) (hm : ∀ c ∈ cs, MayB c) :
    Calls Try.prog 6 #[.slice q cs.length cp, .int .i64 (n : Int), .slice p m.length cm] w fun e w' => e = .returned (.bool true) ∧ Below w.heap.size w w' := by
  have hf := fixed_any w
  have hh := fun W : World => head_yes n h1 h2 W
  have hen := fun (W : World) (hW : SlOf encC 3 W q cp cs) => enc_yes2 q cp cs W hW (by omega) hm
  have hel := encs_len cs hm
  have hhl := head_len n h2
  obtain ⟨A, hA⟩ : ∃ A, headB n ++ (encs cs ++ m) = A := ⟨_, rfl⟩
  obtain ⟨r1, r2, r3, ds, r, hK, hsc, hAr⟩ := back_scan n cs m h1 h2 hm A hA.symm
  have hAl : A.length = (headB n).length + ((encs cs).length + m.length) := by rw [← hA]; simp
  have hAl2 := congrArg List.length hAr
  rw [List.length_append, List.length_append] at hAl2
  obtain ⟨K, hKK⟩ : ∃ K, cs ++ ds = K := ⟨_, rfl⟩
  have hKc : K.take cs.length = cs := by rw [← hKK]; simp
  have hKl : cs.length ≤ K.length := by rw [← hKK]; simp
  have hEm : (encs cs).length ≤ (encs K).length := by rw [← hKK]; simp [encs]
  rw [hKK] at hK hsc hAr hAl2
  have h8 := encs_len8 K
  have hscan : ∀ (q : Option Addr) (c : Nat) (W : World), SlOf encB 1 W q c A → Calls Try.prog 24 #[.slice q A.length c] W fun e w' => (∃ q' c', e = .returned (.tuple #[.int .i64 (n : Int), .slice q' K.length c', .int .i64 (((headB n).length + (encs K).length : Nat) : Int), .int .i64 0]) ∧ SlOf encC 3 w' q' c' K) ∧ Below W.heap.size W w' := fun q c W hW => by
    refine (scan_any q c A W hW (by omega)).mono ?_
    rintro e' w' ⟨hR, hB⟩
    refine ⟨?_, hB⟩
    rcases hR with ⟨hn, _⟩ | ⟨_, q', c', a, ha, he, ho⟩
    · rw [r1] at hn; cases hn
    · rw [r3] at ha
      subst ha
      rw [r2, hsc] at he
      rw [hsc] at ho
      exact ⟨q', c', he, ho.ls⟩
  have henK := fun (q : Option Addr) (c : Nat) (W : World) (hW : SlOf encC 3 W q c K) => enc_yes2 q c K W hW (by omega) hK
  have hsame := fun (q' : Option Addr) (c' : Nat) (W : World) (hW : SlOf encC 3 W q' c' K) (hq : SlOf encC 3 W q cp cs) => sameC_any q' q c' cp cs cs W (by have := sl_preC hW cs.length hKl; rw [hKc] at this; exact this) hq (by omega) (by omega)
  rw [decide_eq_true rfl] at hsame
  have hcutA : ∀ (W : World) (q : Option Addr) (c : Nat), SlOf encB 1 W q c A → SlOf encB 1 W (cutA q c (headB n).length) (c - (headB n).length) (encs K) := fun W q c hW => by
    have h3 := cut_sl hW (headB n).length (encs K).length (by omega)
    rw [drop_pre hAr, List.take_left] at h3
    exact h3
  have hsb := fun (W : World) (q' : Option Addr) (c' : Nat) (q'' : Option Addr) (c'' : Nat) (hW : SlOf encB 1 W q' c' A) (hV : SlOf encB 1 W q'' c'' (encs K)) => sameBytes_any (cutA q' c' (headB n).length) q'' (c' - (headB n).length) c'' (encs K) (encs K) W (hcutA W q' c' hW) hV
  rw [decide_eq_true rfl] at hsb
  obtain ⟨L, hL⟩ : ∃ L, (headB n).length = L := ⟨_, rfl⟩
  obtain ⟨E, hE⟩ : ∃ E, (encs cs).length = E := ⟨_, rfl⟩
  obtain ⟨EK, hEK⟩ : ∃ EK, (encs K).length = EK := ⟨_, rfl⟩
  obtain ⟨N, hN⟩ : ∃ N, A.length = N := ⟨_, rfl⟩
  obtain ⟨LE, hLE⟩ : ∃ LE, L + E = LE := ⟨_, rfl⟩
  obtain ⟨G, hG⟩ : ∃ G, L + EK = G := ⟨_, rfl⟩
  obtain ⟨KL, hKL⟩ : ∃ KL, K.length = KL := ⟨_, rfl⟩
  obtain ⟨M, hM⟩ : ∃ M, m.length = M := ⟨_, rfl⟩
  simp only [hL] at hh hhl hscan hsb hAl hAl2
  simp only [hE] at hen hel hEm hAl
  simp only [hEK] at hsb hscan henK hEm h8 hAl2
  simp only [hN] at hscan hAl hAl2
  simp only [hG] at hscan
  simp only [hKL] at hscan henK h8 hKl
  rw [hM] at hml hAl ⊢
  have f1 : ¬ (KL : Int) < (cs.length : Int) := by omega
  have f2 : (L : Int) + (E : Int) = (LE : Int) := by omega
  have f3 : ¬ (G : Int) < (LE : Int) := by omega
  have f4 : (L : Int) + (EK : Int) = (G : Int) := by omega
  have f5 : (LE : Int) ≤ 9000000000 := by omega
  have f6 : (G : Int) ≤ 9000000000 := by omega
  have f7 : G ≤ N := by omega
  have f8 : L ≤ G := by omega
  have f9 : G - L = EK := by omega
  have g1 : (L : Int) ≤ (G : Int) := by omega
  have hLL := hide hL
  have hEE := hide hE
  have hMM := hide hM
  have hNN : Hid (LE + M = N) := hide (by omega)
  have hLEE := hide hLE
  have HS := hide h
  have HMO := hide hmo
  have HM := hide hm
  have HA := hide hA
  have HKL := hide hKl
  have HEK := hide hEK
  have hNb : N ≤ 9000000000 := by omega
  have HKLL := hide hKL
  have HNA := hide hN
  clear h hmo hL hE hEK hN hLE hG hKL hM hel hm h1 h2 hA hsc hAr hAl hAl2 hK hKK hKc hEm h8 hcutA r1 r2 r3
  go_enter Try.func6, Try.ntmps6
  go_wp2_with (first
    | (go_at_call 9; refine hf.mono ?_; rintro e w1 ⟨rfl, b1⟩; have B1 := hide b1; have S1 := hide ((unhide HS).below b1); have M1 := hide ((unhide HMO).below b1); clear b1)
    | (go_at_call 12; refine (hh _).mono ?_; rintro e w2 ⟨⟨q2, c2, rfl, o2⟩, b2⟩; have S2 := hide ((unhide S1).below b2); have M2 := hide ((unhide M1).below b2); have O2 := hide o2; have B2 := hide ((unhide B1).trans (b2.mono (unhide B1).size)); clear b2 o2)
    | (go_at_call 10; (with_reducible refine (hen _ (unhide S2)).mono ?_); rintro e w3 ⟨⟨q3, c3, rfl, o3⟩, b3⟩; have O3 := hide o3; have P3 := hide ((unhide O2).ls.below b3); have S3 := hide ((unhide S2).below b3); have M3 := hide ((unhide M2).below b3); have B3 := hide ((unhide B2).trans (b3.mono (unhide B2).size)); clear b3 o3)
    | (at_builtin; refine wpList_app rowB rfl (.tmp 57) (.tmp 58) rfl w3.heap.size (some ⟨w3.heap.size, 0, none⟩) 0 [] q2 c2 (headB n) 0 L L rfl (unhide hLL) (by simp) rfl rfl (OwnK.made _ _ (Nat.le_refl _)) ((unhide P3).below ((Below.refl _ _).alloc (Nat.le_refl _) _)).src (by unfold maxLen; omega) (by omega) (by simp) ?_; intro q4 c4 w4 o4 b4 _ _; have O4 := hide o4; have B4 := hide (((Below.refl w3.heap.size w3).alloc (Nat.le_refl _) (.cells #[] 5)).trans b4); clear o4 b4)
    | (at_builtin; refine wpList_app rowB rfl (.tmp 59) (.tmp 60) rfl w3.heap.size q4 c4 ([] ++ headB n) q3 c3 (encs cs) L E LE (unhide hLL) (unhide hEE) (unhide hLEE) rfl rfl (unhide O4) ((unhide O3).below (unhide B4)).src (by unfold maxLen; omega) (by omega) (unhide B4).size ?_; intro q5 c5 w5 o5 b5 _ _; have O5 := hide o5; have B5 := hide ((unhide B4).trans b5); clear o5 b5)
    | (at_builtin; refine wpList_app rowB rfl (.tmp 61) (.tmp 62) rfl w3.heap.size q5 c5 ([] ++ headB n ++ encs cs) p cm m LE M N (by simp only [List.nil_append, List.length_append, unhide hLL, unhide hEE, unhide hLEE]) (unhide hMM) (unhide hNN) rfl rfl (unhide O5) ((unhide M3).below (unhide B5)).src (by unfold maxLen; omega) (by omega) (unhide B5).size ?_; intro q6 c6 w6 o6 b6 _ _; have e6 : [] ++ headB n ++ encs cs ++ m = A := (by rw [← unhide HA]; simp); rw [e6] at o6; have hc6 := o6.ls.2.1; rw [unhide HNA] at hc6; have hslc := slice_lh q6 c6 N L G f8 (by omega); rw [f9] at hslc; have O6 := hide o6.ls; have B6 := hide ((unhide B5).trans b6); clear o6 b6 e6)
    | (go_at_call 24; refine (hscan _ _ _ (unhide O6)).mono ?_; rintro e w7 ⟨⟨q7, c7, rfl, o7⟩, b7⟩; have hc7 := o7.2.1; have O7 := hide o7; have B7 := hide ((unhide B6).trans (b7.mono (unhide B6).size)); have A7 := hide ((unhide O6).below b7); have c7I : (cs.length : Int) ≤ (c7 : Int) := (by have := unhide HKLL; omega); have c7N : cs.length ≤ c7 := (by omega); clear b7 o7)
    | (go_at_call 26; refine (hsame _ _ _ (unhide O7) ((unhide S3).below (unhide B7))).mono ?_; rintro e w8 ⟨rfl, b8⟩; have O8 := hide ((unhide O7).below b8); have A8 := hide ((unhide A7).below b8); have B8 := hide ((unhide B7).trans (b8.mono (unhide B7).size)); clear b8)
    | (go_at_call 10; (with_reducible refine (henK _ _ _ (unhide O8)).mono ?_); rintro e w9 ⟨⟨q9, c9, rfl, o9⟩, b9⟩; have O9 := hide o9; have A9 := hide ((unhide A8).below b9); have B9 := hide ((unhide B8).trans (b9.mono (unhide B8).size)); clear b9 o9)
    | (go_at_call 17; refine (hsb _ _ _ _ _ (unhide A9) (unhide O9)).mono ?_; rintro e w10 ⟨rfl, hw10⟩; obtain rfl := hw10.symm))
  go_loopw [18, 131] (fun v18 v131 wr => ∃ (i a : Nat), i ≤ cs.length ∧ v18 = .int .i64 (a : Int) ∧ Hid (a = (encs (cs.take i)).length) ∧ v131 = .int .i64 (i : Int) ∧ Hid (Below w9.heap.size w9 wr)) (fun _ v131 _ => cs.length - (intOf v131).toNat)
  case atStart => exact ⟨0, 0, Nat.zero_le _, rfl, hide (by simp [encs]), rfl, hide (Below.refl _ _)⟩
  case round =>
    obtain ⟨i, a, hi, rfl, Ha, rfl, HB⟩ := hrel
    have hsB := (unhide HB).size
    have hb9 : Below w3.heap.size w3 w9 := unhide B9
    have hbw : Below w3.heap.size w3 wr := hb9.trans ((unhide HB).mono hb9.size)
    have hs3 := (unhide B3).size
    have hs9 := hb9.size
    by_cases hlt : i < cs.length
    · obtain ⟨x, hx, hdx⟩ := get_at hlt
      have hmx : MayB x := unhide HM x (List.mem_of_getElem? hx)
      obtain ⟨b, off, hq, hb, c0, c1, c2⟩ := changeAt ((unhide S3).below hbw) hx
      subst hq
      have hEs : encs cs = encs (cs.take i) ++ (oneB x ++ encs (cs.drop (i + 1))) := by
        have h9 : encs (cs.take i ++ cs.drop i) = encs (cs.take i) ++ encs (cs.drop i) := by unfold encs; rw [List.map_append, List.flatten_append]
        rw [← encs_cons, ← hdx, ← h9, List.take_append_drop]
      have hsn : (encs (cs.take (i + 1))).length = (encs (cs.take i)).length + (oneB x).length := by rw [take_snoc_of hx, encs_snoc, List.length_append]
      have hEl := congrArg List.length hEs
      rw [unhide hEE, List.length_append, List.length_append, ← unhide Ha] at hEl
      have h8 := one_len8 x
      have hdr : (encs cs).drop a = oneB x ++ encs (cs.drop (i + 1)) := by rw [unhide Ha]; exact drop_pre hEs
      obtain ⟨T, hT⟩ : ∃ T, (oneB x).length = T := ⟨_, rfl⟩
      rw [hT] at hEl hsn h8
      have hO3 := (unhide O3).below hbw
      have hc3 := hO3.2.1
      rw [unhide hEE] at hc3
      have hsl3 := slice_l q3 c3 E a (by omega) hc3
      have hcut : ∀ W : World, Below w3.heap.size w3 W → SlOf encB 1 W (cutA q3 c3 a) (c3 - a) ((encs cs).drop a) := fun W hW => by
        have h3 := cut_sl ((unhide O3).below hW) a (E - a) (by rw [unhide hEE]; omega)
        rw [List.take_of_length_le (by rw [List.length_drop, unhide hEE]; omega)] at h3
        exact h3
      obtain ⟨EA, hEA⟩ : ∃ EA, E - a = EA := ⟨_, rfl⟩
      rw [hEA] at hsl3
      obtain ⟨Zs, hZs⟩ : ∃ Zs, cutA q3 c3 a = Zs := ⟨_, rfl⟩
      obtain ⟨cz, hcz⟩ : ∃ cz, c3 - a = cz := ⟨_, rfl⟩
      rw [hZs, hcz] at hsl3
      simp only [hZs, hcz] at hcut
      have hdl : ((encs cs).drop a).length = EA := by rw [List.length_drop, unhide hEE, hEA]
      have hdec := fun (q : Option Addr) (c : Nat) (W : World) (hW : SlOf encB 1 W q c ((encs cs).drop a ++ m)) => decode_any q c ((encs cs).drop a ++ m) W hW (by rw [List.length_append, hdl, unhide hMM]; omega)
      have hdS : decS ((encs cs).drop a ++ m) = some (x, T) := by rw [← hT]; exact decS_read hmx (r := encs (cs.drop (i + 1)) ++ m) (by rw [hdr, List.append_assoc])
      rw [DecV_some hdS, List.length_append, hdl, unhide hMM] at hdec
      obtain ⟨Z, hZ⟩ : ∃ Z, wr.alloc (.cells #[.int .i64 x.kind, .int .i64 x.id, .string x.text] 32) = Z := ⟨_, rfl⟩
      have bZ : Below wr.heap.size wr Z := by rw [← hZ]; exact (Below.refl _ _).alloc (Nat.le_refl _) _
      have bk : Z.heap[wr.heap.size]? = some (.cells #[.int .i64 x.kind, .int .i64 x.id, .string x.text] 32 (0, 0)) := by rw [← hZ]; exact heap_alloc_new _ _
      have hZs2 : wr.heap.size < Z.heap.size := by rw [← hZ]; simp
      have hne := neqC x x
      rw [decide_eq_true rfl] at hne
      obtain ⟨AT, hAT⟩ : ∃ AT, a + T = AT := ⟨_, rfl⟩
      obtain ⟨EM, hEM⟩ : ∃ EM, EA + M = EM := ⟨_, rfl⟩
      rw [hEM] at hdec
      have k1 : (a : Int) + (T : Int) = (AT : Int) := by omega
      have k2 : (E : Int) - (a : Int) = (EA : Int) := by omega
      have k3 : ¬ (EA : Int) < (T : Int) := by omega
      have k4 : ¬ (T : Int) < 8 := by omega
      have k5 : (AT : Int) ≤ 9000000000 := by omega
      have k6 : (EA : Int) ≤ 9000000000 := by omega
      have k7 : EM ≤ 18000000000 := by omega
      have ki0 : (0 : Int) ≤ (i : Int) := by omega
      have ki1 : (i : Int) < (cs.length : Int) := by omega
      have BZ := hide (hbw.trans (bZ.mono (by omega)))
      have BZ2 := hide bZ
      have BK := hide bk
      have HZ2 := hide hZs2
      have HSN := hide hsn
      have HAT := hide hAT
      have HDL := hide hdl
      have HEM := hide hEM
      have HCUT := hide hcut
      clear hf hh hen hscan henK hsame hsb hx hdx hmx hEs hsn hEl h8 hdr hT hO3 hc3 hcut hEA hZs hcz hdl hdS bZ bk hZs2 hAT hEM hbw hb9
      go_wp2_with (first
        | (at_builtin; refine wpList_app rowB rfl (.tmp 136) (.tmp 139) rfl Z.heap.size (some ⟨Z.heap.size, 0, none⟩) 0 [] Zs cz ((encs cs).drop a) 0 EA EA rfl (unhide HDL) (by simp) rfl rfl (OwnK.made _ _ (Nat.le_refl _)) (unhide HCUT _ ((unhide BZ).trans (((Below.refl Z.heap.size Z).alloc (Nat.le_refl _) _).mono (unhide BZ).size))).src (by unfold maxLen; omega) (by omega) (by simp) ?_; intro q11 c11 w11 o11 b11 _ _; have O11 := hide o11; have B11 := hide (((Below.refl Z.heap.size Z).alloc (Nat.le_refl _) (.cells #[] 5)).trans b11); clear o11 b11)
        | (at_builtin; refine wpList_app rowB rfl (.tmp 140) (.tmp 141) rfl Z.heap.size q11 c11 ([] ++ (encs cs).drop a) p cm m EA M EM (unhide HDL) (unhide hMM) (unhide HEM) rfl rfl (unhide O11) ((unhide M3).below ((unhide BZ).trans ((unhide B11).mono (unhide BZ).size))).src (by unfold maxLen; omega) (by omega) (unhide B11).size ?_; intro q12 c12 w12 o12 b12 _ _; have O12 := hide o12.ls; have B12 := hide ((unhide B11).trans b12); clear o12 b12)
        | (go_at_call 22; refine (hdec _ _ _ (unhide O12)).mono ?_; rintro e w13 ⟨rfl, b13⟩; have b13' := (unhide B12).trans (b13.mono (unhide B12).size); obtain ⟨Y, hY⟩ : ∃ Y, w13.alloc (.cells #[.int .i64 x.kind, .int .i64 x.id, .string x.text] 32) = Y := ⟨_, rfl⟩; have bY : Below Z.heap.size Z Y := (by rw [← hY]; exact b13'.alloc b13'.size _); have bkY : Y.heap[w13.heap.size]? = some (.cells #[.int .i64 x.kind, .int .i64 x.id, .string x.text] 32 (0, 0)) := (by rw [← hY]; exact heap_alloc_new _ _); obtain ⟨⟨d0, d1, d2⟩, _⟩ := cells3 bkY; obtain ⟨⟨e0, e1, e2⟩, _⟩ := cells3 ((bY.block _ (unhide HZ2)).trans (unhide BK)); have BY := hide ((unhide HB).trans ((below_sub (unhide BZ2) bY).mono hsB)); clear b13 b13' bY bkY))
      all_goals
        go_roundw
        case rel => exact ⟨i + 1, AT, by omega, rfl, hide (by rw [unhide HSN, ← unhide Ha]; exact (unhide HAT).symm), by go_num, BY⟩
        case measure => simp [intOf]; omega
    · obtain rfl : i = cs.length := by omega
      have ki1 : ¬ (cs.length : Int) < (cs.length : Int) := by omega
      have haE : a = E := by have := unhide Ha; rw [List.take_length, unhide hEE] at this; exact this
      subst haE
      clear hf hh hen hscan henK hsame hsb
      go_wp2
      go_ret
      exact ⟨rfl, (unhide B3).trans ((hb9.trans ((unhide HB).mono hs9)).mono hs3)⟩
theorem back_law (q : Option Addr) (cp : Nat) (cs : List Ch) (next : Int) (p : Option Addr) (cm : Nat) (m : List UInt8) (w : World) (h : SlOf encC 3 w q cp cs) (hmo : SlOf encB 1 w p cm m) (hn : cs.length ≤ 2000000) (hml : m.length ≤ 2000000) :
    Calls Try.prog 6 #[.slice q cs.length cp, .int .i64 next, .slice p m.length cm] w fun e w' => e = .returned (.bool true) ∧ Below w.heap.size w w' := by
  by_cases hb : (1 ≤ next ∧ next ≤ 1099511627777) ∧ ∀ c ∈ cs, MayB c
  · obtain ⟨⟨h1, h2⟩, hm⟩ := hb
    obtain ⟨n, rfl⟩ := Int.eq_ofNat_of_zero_le (show 0 ≤ next by omega)
    exact back_good q cp cs n p cm m w h hmo hn hml (by omega) (by omega) hm
  · exact back_bad q cp cs next p cm m w h hn hb
end Go.Proofs.Ytalicnifjgcldaa
