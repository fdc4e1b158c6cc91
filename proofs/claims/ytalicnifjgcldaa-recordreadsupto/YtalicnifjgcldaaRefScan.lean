/- The reference's Decode and Scan. -/
import Derived.Test.YtalicnifjgcldaaRefDec2
namespace Go.Proofs.Ytalicnifjgcldaa
open Go.RowKit Go.Sort Go.Shelf

theorem v_end {l : List UInt8} {f a n p : Nat} (h : varS l f 0 0 a false = (n, p, false)) : p ≤ l.length ∨ l.length ≤ a := by
  obtain ⟨_, m, _, hd, _, hp, _⟩ := varS_back l f 0 0 a false n p h
  have := congrArg List.length hd
  simp only [List.length_drop, List.length_append] at this
  have := vint_len_pos m
  omega
theorem v_end1 {l : List UInt8} {f a n p : Nat} (h : varS l f 0 0 a false = (n, p, false)) : p ≤ l.length := by
  obtain ⟨_, m, _, hd, _, hp, _⟩ := varS_back l f 0 0 a false n p h
  have := congrArg List.length hd
  simp only [List.length_drop, List.length_append] at this
  have := vint_len_pos m
  omega
theorem refDecode (q : Option Addr) (cp : Nat) (l : List UInt8) (w : World) (h : SlOf encB 1 w q cp l) (hl : l.length ≤ 1000000000000) :
    Calls Try.prog 23 #[.slice q l.length cp] w fun e w' => e = .returned (DecV l) ∧ Below w.heap.size w w' := by
  cases hdS : decS l with
  | none =>
    rw [DecV_none hdS]
    obtain ⟨V, hV⟩ : ∃ V, varS l 8 0 0 1 false = V := ⟨_, rfl⟩
    obtain ⟨n, p, t⟩ := V
    by_cases hA : t = true ∨ 8192 < n
    · exact rdec_no1 q cp l w h hl (by rw [hV]; exact hA)
    · have ht : t = false := by cases t <;> simp at hA ⊢
      have hn : n ≤ 8192 := by have : ¬ 8192 < n := fun h => hA (Or.inr h)
                               omega
      subst ht
      have hp := v_end1 hV
      by_cases hB : p + n ≤ l.length ∧ 2 ≤ n
      · obtain ⟨hb1, hb2⟩ := hB
        obtain ⟨body, hbo⟩ : ∃ body, (l.drop p).take n = body := ⟨_, rfl⟩
        have hbl : body.length = n := by rw [← hbo]; simp; omega
        obtain ⟨V2, hV2⟩ : ∃ V2, varS body 8 0 0 1 false = V2 := ⟨_, rfl⟩
        obtain ⟨id, fr, t2⟩ := V2
        by_cases hC : t2 = true ∨ 1099511627776 < id
        · exact rdec_no3 q cp l w h hl n p hV hn hb1 hb2 body hbo (by rw [hV2]; exact hC)
        · have ht2 : t2 = false := by cases t2 <;> simp at hC ⊢
          have hid : id ≤ 1099511627776 := by have : ¬ 1099511627776 < id := fun h => hC (Or.inr h)
                                              omega
          subst ht2
          have hfr := v_end1 hV2
          rw [hbl] at hfr
          obtain ⟨y, hy, _⟩ := get_at (show 0 < body.length by omega)
          by_cases hm : MayB ⟨(y.toNat : Int), (id : Int), ⟨(body.drop fr).toArray⟩⟩
          · by_cases hbg : l.take (oneB ⟨(y.toNat : Int), (id : Int), ⟨(body.drop fr).toArray⟩⟩).length = oneB ⟨(y.toNat : Int), (id : Int), ⟨(body.drop fr).toArray⟩⟩
            · exfalso
              have := decS_read hm (l := l) (r := l.drop (oneB ⟨(y.toNat : Int), (id : Int), ⟨(body.drop fr).toArray⟩⟩).length) (by
                have h9 := (List.take_append_drop (oneB ⟨(y.toNat : Int), (id : Int), ⟨(body.drop fr).toArray⟩⟩).length l).symm
                rw [hbg] at h9
                exact h9)
              rw [hdS] at this
              cases this
            · exact rdec_no5 q cp l w h hl n p hV hn hb1 hb2 body hbo id fr hV2 hid hfr y hy _ rfl hm hbg
          · exact rdec_no4 q cp l w h hl n p hV hn hb1 hb2 body hbo id fr hV2 hid hfr y hy _ rfl hm
      · exact rdec_no2 q cp l w h hl n p hV hn hp hB
  | some x =>
    obtain ⟨c, N⟩ := x
    rw [DecV_some hdS]
    obtain ⟨hm, hN, _⟩ := dec_parts hdS
    obtain ⟨v1, v2, v3, v4, v5⟩ := dec_v1 hdS
    obtain ⟨u1, u2, u3, u4, u5, u6⟩ := body_v2 hm
    have hl2 := (decS_back hdS).2.1
    have hc : (⟨((UInt8.ofNat c.kind.toNat).toNat : Int), ((c.id.toNat : Nat) : Int), c.text⟩ : Ch) = c := by rw [u5, u6]
    have hT : (⟨((bodyB c).drop (1 + (vint c.id.toNat).length)).toArray⟩ : ByteArray) = c.text := by rw [u4]
    have hfr := v_end1 u1
    have hk := rdec_ok q cp l w h hl (bodyB c).length (1 + (vint (bodyB c).length).length) v1 (by omega) v4 v3 (bodyB c) v5 c.id.toNat (1 + (vint c.id.toNat).length) u1 u2 hfr (UInt8.ofNat c.kind.toNat) u3 c.text hT (by rw [hc]; exact hm) (by rw [hc]; exact take_pre hl2)
    rw [hc, u5, u6, ← hN] at hk
    exact hk
theorem headV_one {l : List UInt8} {n : Nat} {r : List UInt8} (h : l = headB n ++ r) (h2 : n ≤ 1099511627777) : varS l 8 0 0 1 false = (n, 1 + (vint n).length, false) := by
  have hl : l = 72 :: (vint n ++ (four (sumB (72 :: vint n)) ++ r)) := by
    have e : headB n = (72 :: vint n) ++ four (sumB (72 :: vint n)) := rfl
    rw [h, e]; simp
  have := varS_read l 8 0 0 1 n (four (sumB (72 :: vint n)) ++ r) (by rw [hl]; rfl) (by rw [pow8]; omega) (by omega) (fun h => by omega)
  rw [this]; simp
set_option maxRecDepth 100000 in
set_option maxHeartbeats 1000000 in
theorem rscan_no (q : Option Addr) (c : Nat) (l : List UInt8) (w : World) (h : SlOf encB 1 w q c l) (hl : l.length ≤ 1000000000000) (hM : headOk l = false) :
    Calls Try.prog 25 #[.slice q l.length c] w fun e w' => e = .returned (.tuple #[.int .i64 0, .slice none 0 0, .int .i64 0, .int .i64 31]) ∧ Below w.heap.size w w' := by
  obtain ⟨V, hV⟩ : ∃ V, varS l 8 0 0 1 false = V := ⟨_, rfl⟩
  obtain ⟨n, p, t⟩ := V
  by_cases hA : t = true ∨ 1099511627777 < n
  · have hrd : Calls Try.prog 36 #[.slice q l.length c, .int .i64 1, .int .i64 1099511627777] w _ := rd_no q c l 1 1099511627777 w h (by omega) (by omega) (by rw [hV]; exact hA)
    have hh := fun (n : Nat) (W : World) => refHead_one (n : Int) W
    clear h hM hV hA
    go_enter Try.func25, Try.ntmps25
    go_wp2_with (first
      | (go_at_call 36; refine hrd.mono ?_; rintro e w1 ⟨⟨n', p', rfl, hn', hp'⟩, hw1⟩; obtain rfl := hw1.symm)
      | (go_at_call 13; refine (hh n' _).mono ?_; rintro e w2 ⟨⟨q2, c2, rfl, o2⟩, b2⟩; have B2 := hide b2; clear o2 b2))
    refine bodyPost_ret (v := .tuple #[.int .i64 0, .slice none 0 0, .int .i64 0, .int .i64 31]) (by simp [results, Try.f25, go_sem]) rfl ?_
    exact ⟨rfl, unhide B2⟩
  · have ht : t = false := by cases t <;> simp at hA ⊢
    have hn : n ≤ 1099511627777 := by have : ¬ 1099511627777 < n := fun h => hA (Or.inr h)
                                      omega
    subst ht
    have hrd : Calls Try.prog 36 #[.slice q l.length c, .int .i64 1, .int .i64 1099511627777] w _ := rd_yes q c l 1 1099511627777 n p w h (by omega) (by omega) hV hn
    by_cases h1 : 1 ≤ n
    · have hh := fun (W : World) => refHead_yes n h1 hn W
      have hbg : ¬ l.take (headB n).length = headB n := fun hb => by
        have h9 := (List.take_append_drop (headB n).length l).symm
        rw [hb] at h9
        rw [(head_read h1 hn h9).1] at hM
        cases hM
      have hbe := fun (q' : Option Addr) (c' : Nat) (W : World) (h1 : SlOf encB 1 W q c l) (h2 : SlOf encB 1 W q' c' (headB n)) => begins_any q q' c c' l (headB n) W h1 h2 (by omega)
      rw [decide_eq_false hbg] at hbe
      have HS := hide h
      clear h hM hV hA hbg
      go_enter Try.func25, Try.ntmps25
      go_wp2_with (first
        | (go_at_call 36; refine hrd.mono ?_; rintro e w1 ⟨rfl, hw1⟩; obtain rfl := hw1.symm)
        | (go_at_call 13; refine (hh _).mono ?_; rintro e w2 ⟨⟨q2, c2, rfl, o2⟩, b2⟩; have O2 := hide o2.ls; have S2 := hide ((unhide HS).below b2); have B2 := hide b2; clear o2 b2)
        | (go_at_call 37; refine (hbe _ _ _ (unhide S2) (unhide O2)).mono ?_; rintro e w3 ⟨rfl, b3⟩; have B3 := hide ((unhide B2).trans (b3.mono (unhide B2).size)); clear b3))
      refine bodyPost_ret (v := .tuple #[.int .i64 0, .slice none 0 0, .int .i64 0, .int .i64 31]) (by simp [results, Try.f25, go_sem]) rfl ?_
      exact ⟨rfl, unhide B3⟩
    · obtain rfl : n = 0 := by omega
      have hh := fun (W : World) => refHead_no ((0 : Nat) : Int) (by omega) W
      clear h hM hV hA h1
      go_enter Try.func25, Try.ntmps25
      go_wp2_with (first
        | (go_at_call 36; refine hrd.mono ?_; rintro e w1 ⟨rfl, hw1⟩; obtain rfl := hw1.symm)
        | (go_at_call 13; refine (hh _).mono ?_; rintro e w2 ⟨rfl, hw2⟩; obtain rfl := hw2.symm))
      refine bodyPost_ret (v := .tuple #[.int .i64 0, .slice none 0 0, .int .i64 0, .int .i64 31]) (by simp [results, Try.f25, go_sem]) rfl ?_
      exact ⟨rfl, Below.refl _ _⟩
set_option maxRecDepth 100000 in
set_option maxHeartbeats 1000000 in
theorem rscan_yes (q : Option Addr) (c : Nat) (l : List UInt8) (w : World) (h : SlOf encB 1 w q c l) (hl : l.length ≤ 1000000000000) (hM : headOk l = true) :
    Calls Try.prog 25 #[.slice q l.length c] w fun e w' => ScanR w.heap.size l e w' ∧ Below w.heap.size w w' := by
  obtain ⟨n0, hn0, h1, h2, ha0, hlh⟩ := head_back hM
  have hV := headV_one hlh h2
  have hrd : Calls Try.prog 36 #[.slice q l.length c, .int .i64 1, .int .i64 1099511627777] w _ := rd_yes q c l 1 1099511627777 n0 _ w h (by omega) (by omega) hV h2
  have hh := fun (W : World) => refHead_yes n0 h1 h2 W
  have hbe := fun (q' : Option Addr) (c' : Nat) (W : World) (h1 : SlOf encB 1 W q c l) (h2 : SlOf encB 1 W q' c' (headB n0)) => begins_any q q' c c' l (headB n0) W h1 h2 (by omega)
  rw [decide_eq_true (take_pre hlh)] at hbe
  obtain ⟨a0, hA0⟩ : ∃ a0, (headB n0).length = a0 := ⟨_, rfl⟩
  rw [hA0] at ha0
  simp only [hA0] at hh hbe
  have hk0 : a0 ≤ l.length := by have := congrArg List.length hlh; rw [List.length_append, hA0] at this; omega
  have hcl := h.2.1
  obtain ⟨T, hT⟩ : ∃ T, scanL (l.length + 1) (l.drop a0) = T := ⟨_, rfl⟩
  have HSC : Hid (∀ (q' : Option Addr) (c' : Nat) (w' : World), OwnK encC 32 3 w.heap.size w' q' c' T.1 → ScanR w.heap.size l (.returned (.tuple #[.int .i64 (n0 : Int), .slice q' T.1.length c', .int .i64 ((a0 + T.2 : Nat) : Int), .int .i64 0])) w') := hide (fun q' c' w' ho => .inr ⟨hM, q', c', a0, ha0.symm, by rw [hT, hn0], by rw [hT]; exact ho⟩)
  have hdec := fun (a : Nat) (ha : a ≤ l.length) (W : World) (HW : SlOf encB 1 W q c l) => refDecode (cutA q c a) (c - a) (l.drop a) W (by have := cut_sl HW a (l.length - a) (by omega); rw [List.take_of_length_le (by simp)] at this; exact this) (by simp; omega)
  generalize ScanR w.heap.size l = SR at HSC ⊢
  have HS := hide h
  clear h hM ha0 hn0 hlh hV h1 h2 hA0
  go_enter Try.func25, Try.ntmps25
  go_wp2_with (first
    | (go_at_call 36; refine hrd.mono ?_; rintro e w1 ⟨rfl, hw1⟩; obtain rfl := hw1.symm)
    | (go_at_call 13; refine (hh _).mono ?_; rintro e w2 ⟨⟨q2, c2, rfl, o2⟩, b2⟩; have O2 := hide o2.ls; have S2 := hide ((unhide HS).below b2); have B2 := hide b2; clear o2 b2)
    | (go_at_call 37; refine (hbe _ _ _ (unhide S2) (unhide O2)).mono ?_; rintro e w3 ⟨rfl, b3⟩; have B1 := hide ((unhide B2).trans (b3.mono (unhide B2).size)); clear b3))
  go_loopw [11, 12] (fun v9 v7 wr => ∃ (a f N : Nat) (q' : Option Addr) (c' : Nat) (cs : List Ch), a ≤ l.length ∧ v7 = .int .i64 (a : Int) ∧ v9 = .slice q' N c' ∧ Hid (N = cs.length) ∧ N ≤ a ∧ Hid (OwnK encC 32 3 w.heap.size wr q' c' cs) ∧ Hid (l.length - a < f) ∧ Hid (cs ++ (scanL f (l.drop a)).1 = T.1) ∧ Hid (a + (scanL f (l.drop a)).2 = a0 + T.2) ∧ Hid (Below w.heap.size w wr)) (fun _ v7 _ => l.length - (intOf v7).toNat)
  case atStart => exact ⟨a0, l.length + 1, 0, none, 0, [], hk0, rfl, rfl, hide rfl, by omega, hide (OwnK.nil _ _), hide (by omega), hide (by rw [hT]; rfl), hide (by rw [hT]), B1⟩
  case round =>
    obtain ⟨a, f, N, q', c', cs, ha, rfl, rfl, HN, hNa, HO, HF, HE, HA, HB⟩ := hrel
    have hsl := (unhide HS).below (unhide HB)
    have hd := hdec a ha wr hsl
    rw [List.length_drop] at hd
    have hsB := (unhide HB).size
    have hlI : (l.length : Int) ≤ (c : Int) := by omega
    have haI : (a : Int) ≤ (l.length : Int) := by omega
    have haC : a ≤ c := by omega
    cases hdS : decS (l.drop a) with
    | none =>
      rw [DecV_none hdS] at hd
      have hE := unhide HE
      have hA := unhide HA
      rw [scanL_none hdS] at hE hA
      have HE2 := hide hE
      have HA2 := hide hA
      clear hdec hdS hE hA hsl hT
      by_cases hca : c = a
      · have hal : a = l.length := by omega
        have hcl2 : c = l.length := by omega
        clear hca
        subst hal hcl2
        rw [cutA_same, Nat.sub_self] at hd
        go_wp2_with (go_at_call 23; refine hd.mono ?_; rintro e w2 ⟨rfl, b2⟩; have B2 := hide ((unhide HB).trans (b2.mono hsB)); have O2 := hide ((unhide HO).below b2); clear b2)
        refine bodyPost_ret (v := .tuple #[.int .i64 (n0 : Int), .slice q' N c', .int .i64 (l.length : Int), .int .i64 0]) (by simp [results, Try.f25, go_sem]) rfl ?_
        have h1 : cs = T.1 := by have := unhide HE2; simpa using this
        have h2 : l.length = a0 + T.2 := by have := unhide HA2; simpa using this
        have h3 := unhide HN
        have h4 := unhide O2
        rw [h1] at h3 h4
        rw [h3, h2]
        exact ⟨unhide HSC _ _ _ (h4.alloc _), (unhide B2).alloc (unhide B2).size _⟩
      · rw [cutA_ne q hca] at hd
        go_wp2_with (go_at_call 23; refine hd.mono ?_; rintro e w2 ⟨rfl, b2⟩; have B2 := hide ((unhide HB).trans (b2.mono hsB)); have O2 := hide ((unhide HO).below b2); clear b2)
        refine bodyPost_ret (v := .tuple #[.int .i64 (n0 : Int), .slice q' N c', .int .i64 (a : Int), .int .i64 0]) (by simp [results, Try.f25, go_sem]) rfl ?_
        have h1 : cs = T.1 := by have := unhide HE2; simpa using this
        have h2 : a = a0 + T.2 := by have := unhide HA2; simpa using this
        have h3 := unhide HN
        have h4 := unhide O2
        rw [h1] at h3 h4
        rw [h3, h2]
        exact ⟨unhide HSC _ _ _ (h4.alloc _), (unhide B2).alloc (unhide B2).size _⟩
    | some x =>
      obtain ⟨x, n⟩ := x
      rw [DecV_some hdS] at hd
      obtain ⟨hn1, hn2⟩ := decS_len hdS
      rw [List.length_drop] at hn2
      have hca : ¬ c = a := by omega
      rw [cutA_ne q hca] at hd
      obtain ⟨f', hf'⟩ : ∃ f', f = f' + 1 := ⟨f - 1, by have := unhide HF; omega⟩
      subst hf'
      have hE := unhide HE
      have hA := unhide HA
      rw [scanL_some hdS, List.drop_drop] at hE hA
      have HE2 := hide hE
      have HA2 := hide hA
      have hwr : IntKind.i64.wrap ((a : Int) + (n : Int)) = ((a + n : Nat) : Int) := by
        rw [show (a : Int) + (n : Int) = ((a + n : Nat) : Int) by omega]; exact wrap_nat _ (by omega)
      clear hdec hdS hE hA hsl hT
      go_wp2_with (first
        | (go_at_call 23; refine hd.mono ?_; rintro e w2 ⟨rfl, b2⟩; obtain ⟨Y, hY⟩ : ∃ Y, w2.alloc (.cells #[.int .i64 x.kind, .int .i64 x.id, .string x.text] 32) = Y := ⟨_, rfl⟩; have bY : Below wr.heap.size wr Y := (by rw [← hY]; exact b2.alloc b2.size _); have B2 := hide bY; have s2 := bY.size; have bk : Y.heap[w2.heap.size]? = some (.cells #[.int .i64 x.kind, .int .i64 x.id, .string x.text] 32 (0, 0)) := (by rw [← hY]; exact heap_alloc_new _ _); obtain ⟨⟨d0, d1, d2⟩, _⟩ := cells3 bk; clear b2 bY bk)
        | (at_builtin; refine wpList_app rowC rfl _ _ rfl w.heap.size q' c' cs (some ⟨Y.heap.size, 0, none⟩) 1 [x] N 1 (N + 1) (unhide HN).symm rfl rfl rfl rfl (((unhide HO).below (unhide B2)).grow _) (srcC _ _ x) (by unfold maxLen; omega) (by omega) (by simp; omega) ?_; intro q3 c3 w3 o3 b3 _ _; have O3 := hide o3; have B3 := hide ((unhide HB).trans (((unhide B2).mono hsB).trans (((Below.refl w.heap.size Y).alloc (by omega) _).trans b3))); clear o3 b3))
      go_roundw
      case rel => exact ⟨a + n, f', N + 1, q3, c3, cs ++ [x], by omega, by go_num, rfl, hide (by rw [unhide HN]; simp), by omega, O3, hide (by have := unhide HF; omega), hide (by rw [List.append_assoc]; exact unhide HE2), hide (by rw [Nat.add_assoc]; exact unhide HA2), B3⟩
      case measure => simp [intOf]; omega
theorem refScan (q : Option Addr) (c : Nat) (l : List UInt8) (w : World) (h : SlOf encB 1 w q c l) (hl : l.length ≤ 1000000000000) :
    Calls Try.prog 25 #[.slice q l.length c] w fun e w' => ScanR w.heap.size l e w' ∧ Below w.heap.size w w' := by
  cases hM : headOk l with
  | true => exact rscan_yes q c l w h hl hM
  | false => exact (rscan_no q c l w h hl hM).mono (by rintro e w' ⟨rfl, h2⟩; exact ⟨.inl ⟨hM, rfl⟩, h2⟩)
end Go.Proofs.Ytalicnifjgcldaa
