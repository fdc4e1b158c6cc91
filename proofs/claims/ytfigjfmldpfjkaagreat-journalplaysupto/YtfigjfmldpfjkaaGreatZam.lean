/- The reference's Decode and Scan. -/
import Derived.Test.YtfigjfmldpfjkaaGreatRefDec2
import Derived.Test.YtfigjfmldpfjkaaGreatZak
import Derived.Deep.Cut
import Derived.Deep.CutBlock
namespace Go.Proofs.YtfigjfmldpfjkaaGreat
open Go.RowKit Go.Sort Go.Shelf

theorem v_end {l : List UInt8} {f a n p : Nat} (h : varS l f 0 0 a false = (n, p, false)) : p ≤ l.length ∨ l.length ≤ a := by
  obtain ⟨_, m, _, hd, _, hp, _⟩ := varS_back l f 0 0 a false n p h
  have := congrArg List.length hd
  simp only [List.length_drop, List.length_append] at this
  have := vint_len_pos m
  omega
theorem v_end1 {l : List UInt8} {f a n p : Nat} (h : varS l f 0 0 a false = (n, p, false)) : p ≤ l.length := by
  obtain ⟨_, m, _, hd, _, hp, _⟩ := varS_back l f 0 0 a false n p h
  have := congrArg List.length hd
  simp only [List.length_drop, List.length_append] at this
  have := vint_len_pos m
  omega
theorem refDecode (q : Option Addr) (cp : Nat) (l : List UInt8) (w : World) (h : SlOf encB 1 w q cp l) (hl : l.length ≤ 1000000000000) :
    Calls Tryz.prog 90 #[.slice q l.length cp] w fun e w' => e = .returned (DecV l) ∧ Below w.heap.size w w' := by
  cases hdS : decS l with
  | none =>
    rw [DecV_none hdS]
    obtain ⟨V, hV⟩ : ∃ V, varS l 8 0 0 1 false = V := ⟨_, rfl⟩
    obtain ⟨n, p, t⟩ := V
    by_cases hA : t = true ∨ 8192 < n
    · exact rdec_no1 q cp l w h hl (by rw [hV]; exact hA)
    · have ht : t = false := by cases t <;> simp at hA ⊢
      have hn : n ≤ 8192 := by have : ¬ 8192 < n := fun h => hA (Or.inr h)
                               omega
      subst ht
      have hp := v_end1 hV
      by_cases hB : p + n ≤ l.length ∧ 2 ≤ n
      · obtain ⟨hb1, hb2⟩ := hB
        obtain ⟨body, hbo⟩ : ∃ body, (l.drop p).take n = body := ⟨_, rfl⟩
        have hbl : body.length = n := by rw [← hbo]; simp; omega
        obtain ⟨V2, hV2⟩ : ∃ V2, varS body 8 0 0 1 false = V2 := ⟨_, rfl⟩
        obtain ⟨id, fr, t2⟩ := V2
        by_cases hC : t2 = true ∨ 1099511627776 < id
        · exact rdec_no3 q cp l w h hl n p hV hn hb1 hb2 body hbo (by rw [hV2]; exact hC)
        · have ht2 : t2 = false := by cases t2 <;> simp at hC ⊢
          have hid : id ≤ 1099511627776 := by have : ¬ 1099511627776 < id := fun h => hC (Or.inr h)
                                              omega
          subst ht2
          have hfr := v_end1 hV2
          rw [hbl] at hfr
          obtain ⟨y, hy, _⟩ := get_at (show 0 < body.length by omega)
          by_cases hm : MayB ⟨(y.toNat : Int), (id : Int), ⟨(body.drop fr).toArray⟩⟩
          · by_cases hbg : l.take (oneB ⟨(y.toNat : Int), (id : Int), ⟨(body.drop fr).toArray⟩⟩).length = oneB ⟨(y.toNat : Int), (id : Int), ⟨(body.drop fr).toArray⟩⟩
            · exfalso
              have := decS_read hm (l := l) (r := l.drop (oneB ⟨(y.toNat : Int), (id : Int), ⟨(body.drop fr).toArray⟩⟩).length) (by
                have h9 := (List.take_append_drop (oneB ⟨(y.toNat : Int), (id : Int), ⟨(body.drop fr).toArray⟩⟩).length l).symm
                rw [hbg] at h9
                exact h9)
              rw [hdS] at this
              cases this
            · exact rdec_no5 q cp l w h hl n p hV hn hb1 hb2 body hbo id fr hV2 hid hfr y hy _ rfl hm hbg
          · exact rdec_no4 q cp l w h hl n p hV hn hb1 hb2 body hbo id fr hV2 hid hfr y hy _ rfl hm
      · exact rdec_no2 q cp l w h hl n p hV hn hp hB
  | some x =>
    obtain ⟨c, N⟩ := x
    rw [DecV_some hdS]
    obtain ⟨hm, hN, _⟩ := dec_parts hdS
    obtain ⟨v1, v2, v3, v4, v5⟩ := dec_v1 hdS
    obtain ⟨u1, u2, u3, u4, u5, u6⟩ := body_v2 hm
    have hl2 := (decS_back hdS).2.1
    have hc : (⟨((UInt8.ofNat c.kind.toNat).toNat : Int), ((c.id.toNat : Nat) : Int), c.text⟩ : Ch) = c := by rw [u5, u6]
    have hT : (⟨((bodyB c).drop (1 + (vint c.id.toNat).length)).toArray⟩ : ByteArray) = c.text := by rw [u4]
    have hfr := v_end1 u1
    have hk := rdec_ok q cp l w h hl (bodyB c).length (1 + (vint (bodyB c).length).length) v1 (by omega) v4 v3 (bodyB c) v5 c.id.toNat (1 + (vint c.id.toNat).length) u1 u2 hfr (UInt8.ofNat c.kind.toNat) u3 c.text hT (by rw [hc]; exact hm) (by rw [hc]; exact take_pre hl2)
    rw [hc, u5, u6, ← hN] at hk
    exact hk
theorem headV_one {l : List UInt8} {n : Nat} {r : List UInt8} (h : l = headB n ++ r) (h2 : n ≤ 1099511627777) : varS l 8 0 0 1 false = (n, 1 + (vint n).length, false) := by
  have hl : l = 72 :: (vint n ++ (four (sumB (72 :: vint n)) ++ r)) := by
    have e : headB n = (72 :: vint n) ++ four (sumB (72 :: vint n)) := rfl
    rw [h, e]; simp
  have := varS_read l 8 0 0 1 n (four (sumB (72 :: vint n)) ++ r) (by rw [hl]; rfl) (by rw [pow8]; omega) (by omega) (fun h => by omega)
  rw [this]; simp
set_option maxRecDepth 100000 in
set_option maxHeartbeats 1000000 in
theorem rscan_no (q : Option Addr) (c : Nat) (l : List UInt8) (w : World) (h : SlOf encB 1 w q c l) (hl : l.length ≤ 1000000000000) (hM : headOk l = false) :
    Calls Tryz.prog 50 #[.slice q l.length c] w fun e w' => e = .returned (.tuple #[.int .i64 0, .slice none 0 0, .int .i64 0, .int .i64 31]) ∧ Below w.heap.size w w' := by
  obtain ⟨V, hV⟩ : ∃ V, varS l 8 0 0 1 false = V := ⟨_, rfl⟩
  obtain ⟨n, p, t⟩ := V
  by_cases hA : t = true ∨ 1099511627777 < n
  · have hrd : Calls Tryz.prog 87 #[.slice q l.length c, .int .i64 1, .int .i64 1099511627777] w _ := rd_no q c l 1 1099511627777 w h (by omega) (by omega) (by rw [hV]; exact hA)
    have hh := fun (n : Nat) (W : World) => refHead_one (n : Int) W
    clear h hM hV hA
    go_enter Tryz.func50, Tryz.ntmps50
    go_wp2_with (first
      | (go_at_call 87; refine hrd.mono ?_; rintro e w1 ⟨⟨n', p', rfl, hn', hp'⟩, hw1⟩; obtain rfl := hw1.symm)
      | (go_at_call 88; refine (hh n' _).mono ?_; rintro e w2 ⟨⟨q2, c2, rfl, o2⟩, b2⟩; have B2 := hide b2; clear o2 b2))
    refine bodyPost_ret (v := .tuple #[.int .i64 0, .slice none 0 0, .int .i64 0, .int .i64 31]) (by simp [results, Tryz.f50, go_sem]) rfl ?_
    exact ⟨rfl, unhide B2⟩
  · have ht : t = false := by cases t <;> simp at hA ⊢
    have hn : n ≤ 1099511627777 := by have : ¬ 1099511627777 < n := fun h => hA (Or.inr h)
                                      omega
    subst ht
    have hrd : Calls Tryz.prog 87 #[.slice q l.length c, .int .i64 1, .int .i64 1099511627777] w _ := rd_yes q c l 1 1099511627777 n p w h (by omega) (by omega) hV hn
    by_cases h1 : 1 ≤ n
    · have hh := fun (W : World) => refHead_yes n h1 hn W
      have hbg : ¬ l.take (headB n).length = headB n := fun hb => by
        have h9 := (List.take_append_drop (headB n).length l).symm
        rw [hb] at h9
        rw [(head_read h1 hn h9).1] at hM
        cases hM
      have hbe := fun (q' : Option Addr) (c' : Nat) (W : World) (h1 : SlOf encB 1 W q c l) (h2 : SlOf encB 1 W q' c' (headB n)) => begins_any q q' c c' l (headB n) W h1 h2 (by omega)
      rw [decide_eq_false hbg] at hbe
      have HS := hide h
      clear h hM hV hA hbg
      go_enter Tryz.func50, Tryz.ntmps50
      go_wp2_with (first
        | (go_at_call 87; refine hrd.mono ?_; rintro e w1 ⟨rfl, hw1⟩; obtain rfl := hw1.symm)
        | (go_at_call 88; refine (hh _).mono ?_; rintro e w2 ⟨⟨q2, c2, rfl, o2⟩, b2⟩; have O2 := hide o2.ls; have S2 := hide ((unhide HS).below b2); have B2 := hide b2; clear o2 b2)
        | (go_at_call 89; refine (hbe _ _ _ (unhide S2) (unhide O2)).mono ?_; rintro e w3 ⟨rfl, b3⟩; have B3 := hide ((unhide B2).trans (b3.mono (unhide B2).size)); clear b3))
      refine bodyPost_ret (v := .tuple #[.int .i64 0, .slice none 0 0, .int .i64 0, .int .i64 31]) (by simp [results, Tryz.f50, go_sem]) rfl ?_
      exact ⟨rfl, unhide B3⟩
    · obtain rfl : n = 0 := by omega
      have hh := fun (W : World) => refHead_no ((0 : Nat) : Int) (by omega) W
      clear h hM hV hA h1
      go_enter Tryz.func50, Tryz.ntmps50
      go_wp2_with (first
        | (go_at_call 87; refine hrd.mono ?_; rintro e w1 ⟨rfl, hw1⟩; obtain rfl := hw1.symm)
        | (go_at_call 88; refine (hh _).mono ?_; rintro e w2 ⟨rfl, hw2⟩; obtain rfl := hw2.symm))
      refine bodyPost_ret (v := .tuple #[.int .i64 0, .slice none 0 0, .int .i64 0, .int .i64 31]) (by simp [results, Tryz.f50, go_sem]) rfl ?_
      exact ⟨rfl, Below.refl _ _⟩
set_option maxRecDepth 100000 in
set_option maxHeartbeats 1000000 in
theorem rscan_yes (q : Option Addr) (c : Nat) (l : List UInt8) (w : World) (h : SlOf encB 1 w q c l) (hl : l.length ≤ 1000000000000) (hM : headOk l = true) :
    Calls Tryz.prog 50 #[.slice q l.length c] w fun e w' => ScanR w.heap.size l e w' ∧ Below w.heap.size w w' := by
  obtain ⟨n0, hn0, h1, h2, ha0, hlh⟩ := head_back hM
  have hV := headV_one hlh h2
  have hrd : Calls Tryz.prog 87 #[.slice q l.length c, .int .i64 1, .int .i64 1099511627777] w _ := rd_yes q c l 1 1099511627777 n0 _ w h (by omega) (by omega) hV h2
  have hh := fun (W : World) => refHead_yes n0 h1 h2 W
  have hbe := fun (q' : Option Addr) (c' : Nat) (W : World) (h1 : SlOf encB 1 W q c l) (h2 : SlOf encB 1 W q' c' (headB n0)) => begins_any q q' c c' l (headB n0) W h1 h2 (by omega)
  rw [decide_eq_true (take_pre hlh)] at hbe
  obtain ⟨a0, hA0⟩ : ∃ a0, (headB n0).length = a0 := ⟨_, rfl⟩
  rw [hA0] at ha0
  simp only [hA0] at hh hbe
  have hk0 : a0 ≤ l.length := by have := congrArg List.length hlh; rw [List.length_append, hA0] at this; omega
  have hcl := h.2.1
  obtain ⟨T, hT⟩ : ∃ T, scanL (l.length + 1) (l.drop a0) = T := ⟨_, rfl⟩
  have HSC : Hid (∀ (q' : Option Addr) (c' : Nat) (w' : World), OwnK encC 63 3 w.heap.size w' q' c' T.1 → ScanR w.heap.size l (.returned (.tuple #[.int .i64 (n0 : Int), .slice q' T.1.length c', .int .i64 ((a0 + T.2 : Nat) : Int), .int .i64 0])) w') := hide (fun q' c' w' ho => .inr ⟨hM, q', c', a0, ha0.symm, by rw [hT, hn0], by rw [hT]; exact ho⟩)
  have hdec := fun (a : Nat) (ha : a ≤ l.length) (W : World) (HW : SlOf encB 1 W q c l) => refDecode (cutA q c a) (c - a) (l.drop a) W (by have := cut_sl HW a (l.length - a) (by omega); rw [List.take_of_length_le (by simp)] at this; exact this) (by simp; omega)
  generalize ScanR w.heap.size l = SR at HSC ⊢
  have HS := hide h
  clear h hM ha0 hn0 hlh hV h1 h2 hA0
  go_enter Tryz.func50, Tryz.ntmps50
  go_wp2_with (first
    | (go_at_call 87; refine hrd.mono ?_; rintro e w1 ⟨rfl, hw1⟩; obtain rfl := hw1.symm)
    | (go_at_call 88; refine (hh _).mono ?_; rintro e w2 ⟨⟨q2, c2, rfl, o2⟩, b2⟩; have O2 := hide o2.ls; have S2 := hide ((unhide HS).below b2); have B2 := hide b2; clear o2 b2)
    | (go_at_call 89; refine (hbe _ _ _ (unhide S2) (unhide O2)).mono ?_; rintro e w3 ⟨rfl, b3⟩; have B1 := hide ((unhide B2).trans (b3.mono (unhide B2).size)); clear b3))
  go_loopw [11, 12] (fun v9 v7 wr => ∃ (a f N : Nat) (q' : Option Addr) (c' : Nat) (cs : List Ch), a ≤ l.length ∧ v7 = .int .i64 (a : Int) ∧ v9 = .slice q' N c' ∧ Hid (N = cs.length) ∧ N ≤ a ∧ Hid (OwnK encC 63 3 w.heap.size wr q' c' cs) ∧ Hid (l.length - a < f) ∧ Hid (cs ++ (scanL f (l.drop a)).1 = T.1) ∧ Hid (a + (scanL f (l.drop a)).2 = a0 + T.2) ∧ Hid (Below w.heap.size w wr)) (fun _ v7 _ => l.length - (intOf v7).toNat)
  case atStart => exact ⟨a0, l.length + 1, 0, none, 0, [], hk0, rfl, rfl, hide rfl, by omega, hide (OwnK.nil _ _), hide (by omega), hide (by rw [hT]; rfl), hide (by rw [hT]), B1⟩
  case round =>
    obtain ⟨a, f, N, q', c', cs, ha, rfl, rfl, HN, hNa, HO, HF, HE, HA, HB⟩ := hrel
    have hsl := (unhide HS).below (unhide HB)
    have hd := hdec a ha wr hsl
    rw [List.length_drop] at hd
    have hsB := (unhide HB).size
    have hlI : (l.length : Int) ≤ (c : Int) := by omega
    have haI : (a : Int) ≤ (l.length : Int) := by omega
    have haC : a ≤ c := by omega
    cases hdS : decS (l.drop a) with
    | none =>
      rw [DecV_none hdS] at hd
      have hE := unhide HE
      have hA := unhide HA
      rw [scanL_none hdS] at hE hA
      have HE2 := hide hE
      have HA2 := hide hA
      clear hdec hdS hE hA hsl hT
      by_cases hca : c = a
      · have hal : a = l.length := by omega
        have hcl2 : c = l.length := by omega
        clear hca
        subst hal hcl2
        rw [cutA_same, Nat.sub_self] at hd
        go_wp2_with (go_at_call 90; refine hd.mono ?_; rintro e w2 ⟨rfl, b2⟩; have B2 := hide ((unhide HB).trans (b2.mono hsB)); have O2 := hide ((unhide HO).below b2); clear b2)
        refine bodyPost_ret (v := .tuple #[.int .i64 (n0 : Int), .slice q' N c', .int .i64 (l.length : Int), .int .i64 0]) (by simp [results, Tryz.f50, go_sem]) rfl ?_
        have h1 : cs = T.1 := by have := unhide HE2; simpa using this
        have h2 : l.length = a0 + T.2 := by have := unhide HA2; simpa using this
        have h3 := unhide HN
        have h4 := unhide O2
        rw [h1] at h3 h4
        rw [h3, h2]
        exact ⟨unhide HSC _ _ _ (h4.alloc _), (unhide B2).alloc (unhide B2).size _⟩
      · rw [cutA_ne q hca] at hd
        go_wp2_with (go_at_call 90; refine hd.mono ?_; rintro e w2 ⟨rfl, b2⟩; have B2 := hide ((unhide HB).trans (b2.mono hsB)); have O2 := hide ((unhide HO).below b2); clear b2)
        refine bodyPost_ret (v := .tuple #[.int .i64 (n0 : Int), .slice q' N c', .int .i64 (a : Int), .int .i64 0]) (by simp [results, Tryz.f50, go_sem]) rfl ?_
        have h1 : cs = T.1 := by have := unhide HE2; simpa using this
        have h2 : a = a0 + T.2 := by have := unhide HA2; simpa using this
        have h3 := unhide HN
        have h4 := unhide O2
        rw [h1] at h3 h4
        rw [h3, h2]
        exact ⟨unhide HSC _ _ _ (h4.alloc _), (unhide B2).alloc (unhide B2).size _⟩
    | some x =>
      obtain ⟨x, n⟩ := x
      rw [DecV_some hdS] at hd
      obtain ⟨hn1, hn2⟩ := decS_len hdS
      rw [List.length_drop] at hn2
      have hca : ¬ c = a := by omega
      rw [cutA_ne q hca] at hd
      obtain ⟨f', hf'⟩ : ∃ f', f = f' + 1 := ⟨f - 1, by have := unhide HF; omega⟩
      subst hf'
      have hE := unhide HE
      have hA := unhide HA
      rw [scanL_some hdS, List.drop_drop] at hE hA
      have HE2 := hide hE
      have HA2 := hide hA
      have hwr : IntKind.i64.wrap ((a : Int) + (n : Int)) = ((a + n : Nat) : Int) := by
        rw [show (a : Int) + (n : Int) = ((a + n : Nat) : Int) by omega]; exact wrap_nat _ (by omega)
      clear hdec hdS hE hA hsl hT
      go_wp2_with (first
        | (go_at_call 90; refine hd.mono ?_; rintro e w2 ⟨rfl, b2⟩; obtain ⟨Y, hY⟩ : ∃ Y, w2.alloc (.cells #[.int .i64 x.kind, .int .i64 x.id, .string x.text] 63) = Y := ⟨_, rfl⟩; have bY : Below wr.heap.size wr Y := (by rw [← hY]; exact b2.alloc b2.size _); have B2 := hide bY; have s2 := bY.size; have bk : Y.heap[w2.heap.size]? = some (.cells #[.int .i64 x.kind, .int .i64 x.id, .string x.text] 63 (0, 0)) := (by rw [← hY]; exact heap_alloc_new _ _); obtain ⟨⟨d0, d1, d2⟩, _⟩ := cells3 bk; clear b2 bY bk)
        | (at_builtin; refine wpList_app rowC rfl _ _ rfl w.heap.size q' c' cs (some ⟨Y.heap.size, 0, none⟩) 1 [x] N 1 (N + 1) (unhide HN).symm rfl rfl rfl rfl (((unhide HO).below (unhide B2)).grow _) (srcC _ _ x) (by unfold maxLen; omega) (by omega) (by simp; omega) ?_; intro q3 c3 w3 o3 b3 _ _; have O3 := hide o3; have B3 := hide ((unhide HB).trans (((unhide B2).mono hsB).trans (((Below.refl w.heap.size Y).alloc (by omega) _).trans b3))); clear o3 b3))
      go_roundw
      case rel => exact ⟨a + n, f', N + 1, q3, c3, cs ++ [x], by omega, by go_num, rfl, hide (by rw [unhide HN]; simp), by omega, O3, hide (by have := unhide HF; omega), hide (by rw [List.append_assoc]; exact unhide HE2), hide (by rw [Nat.add_assoc]; exact unhide HA2), B3⟩
      case measure => simp [intOf]; omega
theorem refScan (q : Option Addr) (c : Nat) (l : List UInt8) (w : World) (h : SlOf encB 1 w q c l) (hl : l.length ≤ 1000000000000) :
    Calls Tryz.prog 50 #[.slice q l.length c] w fun e w' => ScanR w.heap.size l e w' ∧ Below w.heap.size w w' := by
  cases hM : headOk l with
  | true => exact rscan_yes q c l w h hl hM
  | false => exact (rscan_no q c l w h hl hM).mono (by rintro e w' ⟨rfl, h2⟩; exact ⟨.inl ⟨hM, rfl⟩, h2⟩)
end Go.Proofs.YtfigjfmldpfjkaaGreat
namespace Go.Proofs.YtfigjfmldpfjkaaGreat
open Go.RowKit Go.Sort Go.Shelf

theorem RIn.wide {P P' : Nat → Prop} {w : World} {g c : Nat} {r : Rk} {q : Option Addr} (h : RIn P w g r q c) (hp : ∀ i, P i → i < w.heap.size → P' i) (hg : ¬ P' g) : RAt P' w g r := ⟨q, c, h.mono hp hg⟩
theorem RfJ.after {P : Nat → Prop} {w w1 w' : World} {g : Nat} {s' : JS} {Z : Nat} (b : Below w.heap.size w w1) (hpg : ¬ P g) (hgl : g < w.heap.size) (h : RfJ P w1 g s' Z w') : RfJ P w g s' Z w' := by
  obtain ⟨r', h1, ⟨q, c, h2⟩, h3⟩ := h
  refine ⟨r', h1, h2.wide (fun i hi _ => ?_) (fun hh => ?_), ?_⟩
  · rcases hi with hi | hi
    · exact Or.inl hi
    · exact Or.inr (Nat.le_trans b.size hi)
  · rcases hh with hh | hh
    · exact hpg hh
    · omega
  · refine ⟨h3.os.trans b.os, h3.tape.trans b.tape, h3.output.trans b.output, Nat.le_trans b.size h3.size, fun i hi hne => (h3.block i (Nat.lt_of_lt_of_le hi b.size) hne).trans (b.block i hi)⟩
theorem RfJ.then {P : Nat → Prop} {w w1 w2 : World} {g : Nat} {s2 : JS} {Z : Nat} (hg : w.grownBy w1 (some g)) (hpg : ¬ P g) (hgl : g < w.heap.size) (h : RfJ (fun i => P i ∨ w.heap.size ≤ i) w1 g s2 Z w2) : RfJ P w g s2 Z w2 := by
  obtain ⟨r', h1, ⟨q, c, h2⟩, h3⟩ := h
  refine ⟨r', h1, h2.wide (fun i hi _ => ?_) (fun hh => ?_), ?_⟩
  · rcases hi with (hi | hi) | hi
    · exact Or.inl hi
    · exact Or.inr hi
    · exact Or.inr (Nat.le_trans hg.size hi)
  · rcases hh with hh | hh
    · exact hpg hh
    · omega
  · exact ⟨h3.os.trans hg.os, h3.tape.trans hg.tape, h3.output.trans hg.output, Nat.le_trans hg.size h3.size, fun i hi hne => (h3.block i (Nat.lt_of_lt_of_le hi hg.size) hne).trans (hg.block i hi hne)⟩
theorem RfJ.back {P : Nat → Prop} {w w1 w2 : World} {g : Nat} {s2 : JS} {Z : Nat} (h : RfJ P w g s2 Z w1) (b : Below w1.heap.size w1 w2) : RfJ P w g s2 Z w2 := by
  obtain ⟨r', h1, h2, h3⟩ := h
  exact ⟨r', h1, h2.below b, ⟨b.os.trans h3.os, b.tape.trans h3.tape, b.output.trans h3.output, Nat.le_trans h3.size b.size, fun i hi hne => (b.block i (Nat.lt_of_lt_of_le hi h3.size)).trans (h3.block i hi hne)⟩⟩
theorem RfJ.mono {P : Nat → Prop} {w w1 : World} {g : Nat} {s2 : JS} {Z Z' : Nat} (h : RfJ P w g s2 Z w1) (hz : Z ≤ Z') : RfJ P w g s2 Z' w1 := by
  obtain ⟨r', h1, h2⟩ := h
  exact ⟨r', Rel.mono h1 hz, h2⟩
theorem RfJ.refl {P : Nat → Prop} {w : World} {g c : Nat} {r : Rk} {q : Option Addr} {s : JS} {Z : Nat} (h : RIn P w g r q c) (hr : RelJ s r Z) : RfJ P w g s Z w := ⟨r, hr, REnd.refl h⟩
/-- The document's journal in memory. -/
structure RjIn (P : Nat → Prop) (w : World) (gs g : Nat) (L : List Ch) (x : JX) (q : Option Addr) (c : Nat) : Prop where
  pg : ¬ P gs
  ne : gs ≠ g
  box : w.heap[gs]? = some (.cells #[.pointer (some ⟨g, 0, none⟩), .slice q L.length c, .int .i64 (x.bytes : Int), .int .i64 (x.pend : Int), .int .i64 x.failed] 73 (0, 0))
  row : SlIn encC 3 P w q c L
  cnt : x.cnt = L.length
def RjAt (P : Nat → Prop) (w : World) (gs g : Nat) (L : List Ch) (x : JX) : Prop := ∃ q c, RjIn P w gs g L x q c
theorem RjIn.lt {P : Nat → Prop} {w : World} {gs g c : Nat} {L : List Ch} {x : JX} {q : Option Addr} (h : RjIn P w gs g L x q c) : gs < w.heap.size := (Array.getElem?_eq_some_iff.1 h.box).1
theorem RjIn.kept {P : Nat → Prop} {w w' : World} {gs g c : Nat} {L : List Ch} {x : JX} {q : Option Addr} (h : RjIn P w gs g L x q c) (hs : w.heap.size ≤ w'.heap.size) (hk : ∀ i, P i ∨ i = gs → i < w.heap.size → w'.heap[i]? = w.heap[i]?) : RjIn P w' gs g L x q c :=
  ⟨h.pg, h.ne, (hk gs (Or.inr rfl) h.lt).trans h.box, h.row.kept hs fun i hi => hk i (Or.inl hi), h.cnt⟩
theorem RjIn.below {P : Nat → Prop} {w w' : World} {gs g c : Nat} {L : List Ch} {x : JX} {q : Option Addr} (h : RjIn P w gs g L x q c) (hb : Below w.heap.size w w') : RjIn P w' gs g L x q c := h.kept hb.size fun i _ hi => hb.block i hi
theorem RjIn.mono {P P' : Nat → Prop} {w : World} {gs g c : Nat} {L : List Ch} {x : JX} {q : Option Addr} (h : RjIn P w gs g L x q c) (hp : ∀ i, P i → i < w.heap.size → P' i) (hg : ¬ P' gs) : RjIn P' w gs g L x q c := ⟨hg, h.ne, h.box, h.row.mono hp, h.cnt⟩
/-- How a call of the document's journal ends. -/
structure RqEnd (P : Nat → Prop) (w : World) (gs g : Nat) (s' : JS) (L' : List Ch) (x' : JX) (Z : Nat) (w' : World) : Prop where
  disk : ∃ r', RelJ s' r' Z ∧ RAt (fun i => P i ∨ w.heap.size ≤ i) w' g r'
  jr : RjAt (fun i => P i ∨ w.heap.size ≤ i) w' gs g L' x'
  fr : Kpt (fun i => i ≠ g ∧ i ≠ gs) w w'
end Go.Proofs.YtfigjfmldpfjkaaGreat
namespace Go.Proofs.YtfigjfmldpfjkaaGreat
open Go.RowKit Go.Sort Go.Shelf

theorem chAt3 {w : World} {q : Option Addr} {c : Nat} {l : List Ch} {j : Nat} {x : Ch} (h : SlOf encC 3 w q c l) (hj : l[j]? = some x) : ∃ b off, q = some ⟨b, off, none⟩ ∧ b < w.heap.size ∧ w.cell? ⟨b, off + j * 3, none⟩ = some (.int .i64 x.kind) ∧ w.cell? ⟨b, off + j * 3 + 1, none⟩ = some (.int .i64 x.id) ∧ w.cell? ⟨b, off + j * 3 + 2, none⟩ = some (.string x.text) := by
  obtain ⟨b, off, hq, hb, hc⟩ := h.2.2.2.at hj
  exact ⟨b, off, hq, hb, hc 0 (by omega), hc 1 (by omega), hc 2 (by omega)⟩
theorem next_take {cs : List Ch} {k : Nat} {c : Ch} (h : cs[k]? = some c) (n : Int) : nextN n (cs.take (k + 1)) = if c.kind = 1 then max (nextN n (cs.take k)) (c.id + 1) else nextN n (cs.take k) := by
  rw [List.take_add_one, h]
  exact nextN_snoc n _ c
set_option maxHeartbeats 1000000 in
theorem rnext (n : Int) (q : Option Addr) (cp : Nat) (cs : List Ch) (w : World) (h : SlOf encC 3 w q cp cs) (hn : cs.length ≤ 4000000000000) (hm : ∀ c ∈ cs, MayB c) :
    Calls Tryz.prog 53 #[.int .i64 n, .slice q cs.length cp] w fun e w' => e = .returned (.int .i64 (nextN n cs)) ∧ w' = w := by
  have HS := hide h
  have HM := hide hm
  clear h hm
  go_enter Tryz.func53, Tryz.ntmps53
  go_wp2
  go_loopw [0, 5] (fun v0 v5 wr => ∃ k : Nat, k ≤ cs.length ∧ v5 = .int .i64 (k : Int) ∧ v0 = .int .i64 (nextN n (cs.take k)) ∧ wr = w) (fun _ v5 _ => cs.length - (intOf v5).toNat)
  case atStart => exact ⟨0, Nat.zero_le _, rfl, rfl, rfl⟩
  case round =>
    obtain ⟨k, hk, rfl, rfl, hw⟩ := hrel
    obtain rfl := hw.symm
    by_cases hlt : k < cs.length
    · obtain ⟨c, hc, _⟩ := get_at hlt
      obtain ⟨b, off, hq, _, d0, d1, d2⟩ := chAt3 (unhide HS) hc
      have hmc := unhide HM c (List.mem_of_getElem? hc)
      have hnx := next_take hc n
      subst hq
      have ki0 : (0 : Int) ≤ (k : Int) := by omega
      have ki1 : (k : Int) < (cs.length : Int) := by omega
      have e1 : IntKind.i64.wrap (c.id + 1) = c.id + 1 := wrap_int _ (by have := hmc.1.1; omega) (by have := hmc.1.2; omega)
      obtain ⟨N, hN⟩ : ∃ N, nextN n (cs.take k) = N := ⟨_, rfl⟩
      rw [hN] at hnx ⊢
      obtain ⟨kd, hkd⟩ : ∃ kd, c.kind = kd := ⟨_, rfl⟩
      obtain ⟨id, hid⟩ : ∃ id, c.id = id := ⟨_, rfl⟩
      rw [hkd, hid] at hnx
      rw [hkd] at d0
      rw [hid] at d1 e1
      have HNX := hide hnx
      clear hc hmc hnx hN hkd hid
      by_cases h1 : kd = 1
      · have b1 : (kd == 1) = true := beq_iff_eq.2 h1
        have hx := unhide HNX
        rw [if_pos h1] at hx
        clear h1
        by_cases h2 : N < id + 1
        · have b2 : decide (N < id + 1) = true := decide_eq_true h2
          have HX := hide hx
          clear hx
          go_wp2
          go_roundw
          case rel => exact ⟨k + 1, by omega, by go_num, by rw [unhide HX, Int.max_eq_right (by omega)], trivial⟩
          case measure => simp [intOf]; omega
        · have b2 : decide (N < id + 1) = false := decide_eq_false h2
          have HX := hide hx
          clear hx
          go_wp2
          go_roundw
          case rel => exact ⟨k + 1, by omega, by go_num, by rw [unhide HX, Int.max_eq_left (by omega)], trivial⟩
          case measure => simp [intOf]; omega
      · have b1 : (kd == 1) = false := beq_eq_false_iff_ne.2 h1
        have hx := unhide HNX
        rw [if_neg h1] at hx
        have HX := hide hx
        clear hx h1
        go_wp2
        go_roundw
        case rel => exact ⟨k + 1, by omega, by go_num, by rw [unhide HX], trivial⟩
        case measure => simp [intOf]; omega
    · obtain rfl : k = cs.length := by omega
      have ki1 : ¬ (cs.length : Int) < (cs.length : Int) := by omega
      rw [List.take_length]
      go_wp2
      go_ret
      exact ⟨rfl, rfl⟩
set_option maxHeartbeats 1000000 in
theorem rall (q : Option Addr) (cp : Nat) (cs : List Ch) (w : World) (h : SlOf encC 3 w q cp cs) (hn : cs.length ≤ 4000000000000) :
    Calls Tryz.prog 63 #[.slice q cs.length cp] w fun e w' => e = .returned (.bool (decide (∀ c ∈ cs, MayB c))) ∧ Below w.heap.size w w' := by
  have HS := hide h
  clear h
  go_enter Tryz.func63, Tryz.ntmps63
  go_wp2
  go_loopw [3] (fun v3 wr => ∃ k : Nat, k ≤ cs.length ∧ v3 = .int .i64 (k : Int) ∧ Hid (∀ c ∈ cs.take k, MayB c) ∧ Hid (Below w.heap.size w wr)) (fun v3 _ => cs.length - (intOf v3).toNat)
  case atStart => exact ⟨0, Nat.zero_le _, rfl, hide (by simp), hide (Below.refl _ _)⟩
  case round =>
    obtain ⟨k, hk, rfl, HM, HB⟩ := hrel
    by_cases hlt : k < cs.length
    · obtain ⟨c, hc, _⟩ := get_at hlt
      obtain ⟨b, off, hq, _, d0, d1, d2⟩ := chAt3 ((unhide HS).below (unhide HB)) hc
      subst hq
      have ki0 : (0 : Int) ≤ (k : Int) := by omega
      have ki1 : (k : Int) < (cs.length : Int) := by omega
      have hmy := refMay_any c wr
      have HC := hide hc
      clear hc
      by_cases hy : MayB c
      · rw [decide_eq_true hy] at hmy
        have HY := hide hy
        clear hy
        go_wp2_with (go_at_call 97; refine hmy.mono ?_; rintro e w1 ⟨rfl, b1⟩; have B1 := hide (below_sub (unhide HB) b1); clear b1)
        go_roundw
        case rel => exact ⟨k + 1, by omega, by go_num, hide (by
          intro x hx
          rw [List.take_add_one, unhide HC, List.mem_append] at hx
          rcases hx with hx | hx
          · exact unhide HM x hx
          · simp at hx; rw [hx]; exact unhide HY), B1⟩
        case measure => simp [intOf]; omega
      · rw [decide_eq_false hy] at hmy
        have HY := hide hy
        clear hy
        go_wp2_with (go_at_call 97; refine hmy.mono ?_; rintro e w1 ⟨rfl, b1⟩; have B1 := hide (below_sub (unhide HB) b1); clear b1)
        go_ret
        exact ⟨ret_bool (decide_eq_false fun h => unhide HY (h c (List.mem_of_getElem? (unhide HC)))).symm, unhide B1⟩
    · obtain rfl : k = cs.length := by omega
      have ki1 : ¬ (cs.length : Int) < (cs.length : Int) := by omega
      rw [List.take_length] at HM
      go_wp2
      go_ret
      exact ⟨ret_bool (decide_eq_true (unhide HM)).symm, unhide HB⟩
theorem rthere {P : Nat → Prop} {w : World} {g c : Nat} {r : Rk} {q : Option Addr} {s : JS} {Z : Nat} (h : RIn P w g r q c) (hr : RelJ s r Z) (nm : ByteArray) (b : Bool) (hb : (erJ s nm == 0) = b) :
    Calls Tryz.prog 47 #[.pointer (some ⟨g, 0, none⟩), .string nm] w fun e w' => e = .returned (.bool b) ∧ w' = w := by
  have hrd := rreadJ h hr nm
  clear h hr
  go_enter Tryz.func47, Tryz.ntmps47
  go_wp2_with (go_at_call 49; refine hrd.mono ?_; rintro e w1 ⟨⟨q1, c1, rfl, _⟩, hw1⟩; obtain rfl := hw1.symm)
  go_ret
  exact ⟨rfl, rfl⟩
theorem rkeep {P : Nat → Prop} {w : World} {gs g c : Nat} {L : List Ch} {x : JX} {q : Option Addr} (h : RjIn P w gs g L x q c) (e0 : Int) :
    Calls Tryz.prog 65 #[.pointer (some ⟨gs, 0, none⟩), .int .i64 e0] w fun e w' => e = .returned (.int .i64 e0) ∧ RjIn P w' gs g L { x with failed := e0 } q c ∧ w.grownBy w' (some gs) := by
  have hb := h.box
  obtain ⟨⟨c0, c1, c2, c3, c4⟩, z0, z1, z2, z3⟩ := cells5 hb
  have z4 := froz4 hb 4
  have k1 := heap_setCell_same w gs 4 _ 73 (.int .i64 e0) hb
  have H := hide h
  have K1 := hide k1
  clear h hb k1
  go_enter Tryz.func65, Tryz.ntmps65
  go_wp2
  go_ret
  have hg := grown_set w gs 4 (.int .i64 e0)
  have h := unhide H
  refine ⟨rfl, ⟨h.pg, h.ne, unhide K1, h.row.kept hg.size fun i hi hl => hg.block i hl (by intro e; injection e with e; exact h.pg (e ▸ hi)), h.cnt⟩, hg⟩
end Go.Proofs.YtfigjfmldpfjkaaGreat
namespace Go.Proofs.YtfigjfmldpfjkaaGreat
open Go.RowKit Go.Sort Go.Shelf

section
variable {P : Nat → Prop} {w : World} {g : Nat} {s : JS} {Z : Nat}
theorem RfJ.cAppR {V : World} (hpg : ¬ P g) (hgl : g < w.heap.size) (h : RfJ P w g s Z V) (ha : s.acts ≤ 1000000) (hZ : Z ≤ 30000000000000) (p : Option Addr) (k : Nat) (data : List UInt8) (hd : SlOf encB 1 V p k data) (hpd : 0 < data.length → ∀ a, p = some a → a.block ≠ g) (hdl : data.length ≤ 30000000000000) :
    Calls Tryz.prog 30 #[.pointer (some ⟨g, 0, none⟩), .string nR, .slice p data.length k] V fun e w' => e = .returned (.int .i64 (appR s data).1) ∧ RfJ P w g (appR s data).2 (Z + data.length) w' := by
  obtain ⟨r1, rel1, ⟨q1, c1, hi1⟩, hg1⟩ := h
  exact (rappR hi1 rel1 ha hZ p k data hd hpd hdl).mono fun _ _ ⟨h1, h2⟩ => ⟨h1, RfJ.then hg1 hpg hgl h2⟩
theorem RfJ.cAppJ {V : World} (hpg : ¬ P g) (hgl : g < w.heap.size) (h : RfJ P w g s Z V) (ha : s.acts ≤ 1000000) (hZ : Z ≤ 30000000000000) (p : Option Addr) (k : Nat) (data : List UInt8) (hd : SlOf encB 1 V p k data) (hpd : 0 < data.length → ∀ a, p = some a → a.block ≠ g) (hdl : data.length ≤ 30000000000000) :
    Calls Tryz.prog 30 #[.pointer (some ⟨g, 0, none⟩), .string nJ, .slice p data.length k] V fun e w' => e = .returned (.int .i64 (appJ s data).1) ∧ RfJ P w g (appJ s data).2 (Z + data.length) w' := by
  obtain ⟨r1, rel1, ⟨q1, c1, hi1⟩, hg1⟩ := h
  exact (rappJ hi1 rel1 ha hZ p k data hd hpd hdl).mono fun _ _ ⟨h1, h2⟩ => ⟨h1, RfJ.then hg1 hpg hgl h2⟩
theorem RfJ.cSynR {V : World} (hpg : ¬ P g) (hgl : g < w.heap.size) (h : RfJ P w g s Z V) (ha : s.acts ≤ 1000000) :
    Calls Tryz.prog 66 #[.pointer (some ⟨g, 0, none⟩), .string nR] V fun e w' => e = .returned (.int .i64 (synR s).1) ∧ RfJ P w g (synR s).2 Z w' := by
  obtain ⟨r1, rel1, ⟨q1, c1, hi1⟩, hg1⟩ := h
  exact (rsynR hi1 rel1 ha).mono fun _ _ ⟨h1, h2⟩ => ⟨h1, RfJ.then hg1 hpg hgl h2⟩
theorem RfJ.cSynJ {V : World} (hpg : ¬ P g) (hgl : g < w.heap.size) (h : RfJ P w g s Z V) (ha : s.acts ≤ 1000000) :
    Calls Tryz.prog 66 #[.pointer (some ⟨g, 0, none⟩), .string nJ] V fun e w' => e = .returned (.int .i64 (synJ s).1) ∧ RfJ P w g (synJ s).2 Z w' := by
  obtain ⟨r1, rel1, ⟨q1, c1, hi1⟩, hg1⟩ := h
  exact (rsynJ hi1 rel1 ha).mono fun _ _ ⟨h1, h2⟩ => ⟨h1, RfJ.then hg1 hpg hgl h2⟩
theorem RfJ.cRenM {V : World} (hpg : ¬ P g) (hgl : g < w.heap.size) (h : RfJ P w g s Z V) (ha : s.acts ≤ 1000000) :
    Calls Tryz.prog 91 #[.pointer (some ⟨g, 0, none⟩), .string nR, .string nJ] V fun e w' => e = .returned (.int .i64 (renM s).1) ∧ RfJ P w g (renM s).2 Z w' := by
  obtain ⟨r1, rel1, ⟨q1, c1, hi1⟩, hg1⟩ := h
  exact (rrenM hi1 rel1 ha).mono fun _ _ ⟨h1, h2⟩ => ⟨h1, RfJ.then hg1 hpg hgl h2⟩
theorem RfJ.cRemR {V : World} (hpg : ¬ P g) (hgl : g < w.heap.size) (h : RfJ P w g s Z V) (ha : s.acts ≤ 1000000) {fl : Fl} (ho : s.off = false) (hf : s.f = some fl) :
    Calls Tryz.prog 48 #[.pointer (some ⟨g, 0, none⟩), .string nR] V fun e w' => e = .returned (.int .i64 (remR s).1) ∧ RfJ P w g (remR s).2 Z w' := by
  obtain ⟨r1, rel1, ⟨q1, c1, hi1⟩, hg1⟩ := h
  exact (rremR hi1 rel1 ha ho hf).mono fun _ _ ⟨h1, h2⟩ => ⟨h1, RfJ.then hg1 hpg hgl h2⟩
theorem RfJ.cRead {V : World} (h : RfJ P w g s Z V) (nm : ByteArray) :
    Calls Tryz.prog 49 #[.pointer (some ⟨g, 0, none⟩), .string nm] V fun e w' => (∃ q c, e = .returned (.tuple #[.slice q (rdJ s nm).length c, .int .i64 (erJ s nm)]) ∧ SlIn encB 1 (fun i => P i ∨ w.heap.size ≤ i) V q c (rdJ s nm)) ∧ w' = V := by
  obtain ⟨r1, rel1, ⟨q1, c1, hi1⟩, hg1⟩ := h
  exact rreadJ hi1 rel1 nm
theorem RfJ.cThere {V : World} (h : RfJ P w g s Z V) (nm : ByteArray) (b : Bool) (hb : (erJ s nm == 0) = b) :
    Calls Tryz.prog 47 #[.pointer (some ⟨g, 0, none⟩), .string nm] V fun e w' => e = .returned (.bool b) ∧ w' = V := by
  obtain ⟨r1, rel1, ⟨q1, c1, hi1⟩, hg1⟩ := h
  exact rthere hi1 rel1 nm b hb
theorem RfJ.cLoose {V : World} (h : RfJ P w g s Z V) (hZ : Z ≤ 30000000000000) (nm : ByteArray) :
    Calls Tryz.prog 51 #[.pointer (some ⟨g, 0, none⟩), .string nm] V fun e w' => e = .returned (.int .i64 ((lsJ s nm : Nat) : Int)) ∧ Below V.heap.size V w' := by
  obtain ⟨r1, rel1, ⟨q1, c1, hi1⟩, hg1⟩ := h
  exact rlooseJ hi1 rel1 hZ nm
set_option maxHeartbeats 4000000 in
set_option maxRecDepth 100000 in
theorem RfJ.cAnew {V : World} (hpg : ¬ P g) (hgl : g < w.heap.size) (h : RfJ P w g s Z V) (ha : s.acts ≤ 999990) (hZ : Z ≤ 10000000000000) (n : Nat) (h1 : 1 ≤ n) (h2 : n ≤ 1099511627777) (p : Option Addr) (kp : Nat) (cs : List Ch) (hs : SlOf encC 3 V p kp cs) (hcl : cs.length ≤ 10000000000) (hm : ∀ c ∈ cs, MayB c) (b : List UInt8) (hb : headB n ++ encs cs = b) (hb9 : b.length ≤ 10000000000000) :
    Calls Tryz.prog 52 #[.pointer (some ⟨g, 0, none⟩), .int .i64 (n : Int), .slice p cs.length kp] V fun e w' => e = .returned (.tuple #[.int .i64 (b.length : Int), .int .i64 (writeM s b).1]) ∧ RfJ P w g (writeM s b).2 (Z + b.length) w' := by
  have hV : w.heap.size ≤ V.heap.size := by obtain ⟨r1, _, _, hg1⟩ := h; exact hg1.size
  have hH := refHead_one (n : Int) V
  have hE := fun (W : World) (bW : Below V.heap.size V W) => refEncode_one p kp cs W (hs.below bW) (by omega)
  have eh : headO (n : Int) = headB n := by unfold headO; rw [if_pos ⟨by omega, by omega⟩]; rfl
  have ee : encOo cs = encs cs := by unfold encOo; rw [if_pos hm]
  rw [eh] at hH
  simp only [ee] at hE
  obtain ⟨hd, hhd⟩ : ∃ hd, headB n = hd := ⟨_, rfl⟩
  obtain ⟨en, hen⟩ : ∃ en, encs cs = en := ⟨_, rfl⟩
  have lh := head_len n h2
  have le := encs_len cs hm
  rw [hhd] at hH lh
  simp only [hen] at hE le
  rw [hhd, hen] at hb
  obtain ⟨NB, hNB⟩ : ∃ NB, hd.length + en.length = NB := ⟨_, rfl⟩
  have hbl : b.length = NB := by rw [← hb, List.length_append]; exact hNB
  have hNB9 : NB ≤ 10000000000000 := by rw [← hbl]; exact hb9
  obtain ⟨E1, hE1⟩ : ∃ E1, (appR s b).1 = E1 := ⟨_, rfl⟩
  obtain ⟨E2, hE2⟩ : ∃ E2, (synR (appR s b).2).1 = E2 := ⟨_, rfl⟩
  obtain ⟨E3, hE3⟩ : ∃ E3, (renM (synR (appR s b).2).2).1 = E3 := ⟨_, rfl⟩
  have a1 := appR_acts s b
  have a2 := synR_acts (appR s b).2
  have hA : ∀ (W : World) (qa : Option Addr) (ca : Nat), Below V.heap.size V W → OwnK encB 5 1 V.heap.size W qa ca b → Calls Tryz.prog 30 #[.pointer (some ⟨g, 0, none⟩), .string nR, .slice qa NB ca] W fun e w' => e = .returned (.int .i64 E1) ∧ RfJ P w g (appR s b).2 (Z + NB) w' := fun W qa ca bW ho => by
    have := RfJ.cAppR hpg hgl (h.back bW) (by omega) (by omega) qa ca b ho.ls (fun _ a hq => by have := (own_type ho hq).1; omega) (by omega)
    rw [hE1, hbl] at this
    exact this
  have hS2 : ∀ (W : World), RfJ P w g (appR s b).2 (Z + NB) W → Calls Tryz.prog 66 #[.pointer (some ⟨g, 0, none⟩), .string nR] W fun e w' => e = .returned (.int .i64 E2) ∧ RfJ P w g (synR (appR s b).2).2 (Z + NB) w' := fun W hW => by
    have := hW.cSynR hpg hgl (by omega)
    rw [hE2] at this
    exact this
  have hS3 : ∀ (W : World), RfJ P w g (synR (appR s b).2).2 (Z + NB) W → Calls Tryz.prog 91 #[.pointer (some ⟨g, 0, none⟩), .string nR, .string nJ] W fun e w' => e = .returned (.int .i64 E3) ∧ RfJ P w g (renM (synR (appR s b).2).2).2 (Z + NB) w' := fun W hW => by
    have := hW.cRenM hpg hgl (by omega)
    rw [hE3] at this
    exact this
  have HH := hide hH
  have HE := hide hE
  have HA := hide hA
  have HS2 := hide hS2
  have HS3 := hide hS3
  have HB := hide hb
  have w1 := fun (hx : E1 ≠ 0) => write_1 (s := s) (b := b) (by rw [hE1]; exact hx)
  have w2 := fun (hx : E1 = 0) (hy : E2 ≠ 0) => write_2 (s := s) (b := b) (by rw [hE1]; exact hx) (by rw [hE2]; exact hy)
  have w3 := fun (hx : E1 = 0) (hy : E2 = 0) => write_3 (s := s) (b := b) (by rw [hE1]; exact hx) (by rw [hE2]; exact hy)
  have W1 := hide w1
  have W2 := hide w2
  have W3 := hide w3
  have HE1 := hide hE1
  have HE2 := hide hE2
  have HE3 := hide hE3
  rw [hbl]
  clear h hs hm hH hE hA hS2 hS3 hb hbl hhd hen eh ee w1 w2 w3 hE1 hE2 hE3 a1 a2 lh le
  go_enter Tryz.func52, Tryz.ntmps52
  go_upto_if 33 with (first
    | (go_at_call 88; refine (unhide HH).mono ?_; rintro e u1 ⟨⟨qh, ch, rfl, oh⟩, bh⟩; have OH := hide oh; have BH := hide bh; clear oh bh)
    | (go_at_call 64; refine (unhide HE u1 (unhide BH)).mono ?_; rintro e u2 ⟨⟨qe, ce, rfl, oe⟩, be⟩; have OE := hide oe; have BE := hide (below_sub (unhide BH) be); have OH2 := hide ((unhide OH).below be); clear oe be)
    | (at_builtin; refine wpList_app rowB rfl _ _ rfl V.heap.size q3 c3 hd qe ce en hd.length en.length NB rfl rfl hNB rfl rfl (unhide O3) (unhide OE3).ls.src (by unfold maxLen; omega) (by omega) (unhide B3).size ?_; intro q4 c4 u4 o4 b4 _ _; have O4 : Hid (OwnK encB 5 1 V.heap.size u4 q4 c4 b) := hide (by rw [← unhide HB]; exact o4); have B4 := hide ((unhide B3).trans b4); clear o4 b4)
    | (at_builtin; refine wpList_app rowB rfl _ _ rfl u2.heap.size (some ⟨u2.heap.size, 0, none⟩) 0 [] qh ch hd 0 hd.length hd.length rfl rfl (Nat.zero_add _) rfl rfl (OwnK.made _ _ (Nat.le_refl _)) ((unhide OH2).below ((Below.refl _ _).alloc (Nat.le_refl _) _)).ls.src (by unfold maxLen; omega) (by omega) (by simp) ?_; intro q3 c3 u3 o3 b3 _ _; have b3' : Below u2.heap.size u2 u3 := ((Below.refl _ _).alloc (Nat.le_refl _) _).trans b3; have O3 : Hid (OwnK encB 5 1 V.heap.size u3 q3 c3 hd) := hide (OwnK.mono o3 (unhide BE).size); have OE3 := hide ((unhide OE).below b3'); have B3 := hide (below_sub (unhide BE) b3'); clear o3 b3 b3')
    | (go_at_call 30; refine (unhide HA u4 q4 c4 (unhide B4) (unhide O4)).mono ?_; rintro e u5 ⟨rfl, f5⟩; have F5 := hide f5; clear f5))
  by_cases hz : E1 = 0
  · have bz : (E1 == 0) = true := beq_iff_eq.2 hz
    by_cases hy : E2 = 0
    · have by2 : (E2 == 0) = true := beq_iff_eq.2 hy
      have hw := unhide W3 hz hy
      have HW := hide hw
      clear hz hy hw
      go_wp2_with (first
        | (go_at_call 66; refine (unhide HS2 u5 (unhide F5)).mono ?_; rintro e u6 ⟨rfl, f6⟩; have F6 := hide f6; clear f6)
        | (go_at_call 91; refine (unhide HS3 u6 (unhide F6)).mono ?_; rintro e u7 ⟨rfl, f7⟩; have F7 := hide f7; clear f7))
      refine bodyPost_ret (v := .tuple #[.int .i64 (NB : Int), .int .i64 E3]) (by simp [results, Tryz.f52, go_sem]) rfl ?_
      exact ⟨by rw [unhide HW, unhide HE3], by rw [unhide HW]; exact unhide F7⟩
    · have by2 : (E2 == 0) = false := beq_eq_false_iff_ne.2 hy
      have hw := unhide W2 hz hy
      have HW := hide hw
      clear hz hy hw
      go_wp2_with (go_at_call 66; refine (unhide HS2 u5 (unhide F5)).mono ?_; rintro e u6 ⟨rfl, f6⟩; have F6 := hide f6; clear f6)
      refine bodyPost_ret (v := .tuple #[.int .i64 (NB : Int), .int .i64 E2]) (by simp [results, Tryz.f52, go_sem]) rfl ?_
      exact ⟨by rw [unhide HW, unhide HE2], by rw [unhide HW]; exact unhide F6⟩
  · have bz : (E1 == 0) = false := beq_eq_false_iff_ne.2 hz
    have hw := unhide W1 hz
    have HW := hide hw
    clear hz hw
    go_wp2
    refine bodyPost_ret (v := .tuple #[.int .i64 (NB : Int), .int .i64 E1]) (by simp [results, Tryz.f52, go_sem]) rfl ?_
    exact ⟨by rw [unhide HW, unhide HE1], by rw [unhide HW]; exact unhide F5⟩
end
end Go.Proofs.YtfigjfmldpfjkaaGreat
namespace Go.Proofs.YtfigjfmldpfjkaaGreat
open Go.RowKit Go.Sort Go.Shelf

def PX (P : Nat → Prop) (w : World) (gs : Nat) : Nat → Prop := fun i => (P i ∨ w.heap.size ≤ i) ∧ i ≠ gs
def OpenY (P : Nat → Prop) (w : World) (g : Nat) (s' : JS) (Z : Nat) (L : List Ch) (bytes : Nat) (gs : Nat) (w' : World) : Prop := (∃ r', RelJ s' r' Z ∧ RAt (PX P w gs) w' g r') ∧ RjAt (PX P w gs) w' gs g L ⟨0, L.length, bytes, 0⟩ ∧ w.heap.size ≤ gs ∧ w.grownBy w' (some g)
def OpenR (P : Nat → Prop) (w : World) (g : Nat) (s : JS) (Z : Nat) (e : Ending) (w' : World) : Prop :=
  ((openM s).1 ≠ 0 ∧ e = .returned (.tuple #[.pointer none, .int .i64 0, .int .i64 (openM s).1]) ∧ RfJ P w g (openM s).2 Z w') ∨
  ((openM s).1 = 0 ∧ ∃ gs, e = .returned (.tuple #[.pointer (some ⟨gs, 0, none⟩), .int .i64 (nextN (scN (stB s)) (scC (stB s))), .int .i64 0]) ∧ OpenY P w g (openM s).2 Z (scC (stB s)) (scL (stB s)) gs w')
/-- The box of the new journal. -/
structure OpB (P : Nat → Prop) (w : World) (g gs : Nat) (P2 : Nat → Prop) (Y : World) : Prop where
  pP : ¬ P g
  pg : ¬ P2 g
  gl : g < w.heap.size
  ge : w.heap.size ≤ gs
  ys : gs < Y.heap.size
  p2 : ∀ i, P2 i → (P i ∨ w.heap.size ≤ i) ∧ i ≠ gs
  gr : w.grownBy Y (some g)
theorem OpB.fin {P P2 : Nat → Prop} {w Y u u' : World} {g gs Z bytes c : Nat} {s' : JS} {q : Option Addr} {L : List Ch} (h : OpB P w g gs P2 Y) (f : RfJ P2 Y g s' Z u) (hu : u.grownBy u' (some gs)) (hb : u'.heap[gs]? = some (.cells #[.pointer (some ⟨g, 0, none⟩), .slice q L.length c, .int .i64 (bytes : Int), .int .i64 0, .int .i64 0] 73 (0, 0))) (hrow : SlIn encC 3 (fun i => P2 i ∨ Y.heap.size ≤ i) u q c L) : OpenY P w g s' Z L bytes gs u' := by
  obtain ⟨r', h1, ⟨qr, cr, h2⟩, h3⟩ := f
  have hge := h.ge
  have hgl := h.gl
  have hys := h.ys
  have hws := h.gr.size
  have hx : ∀ i, (P2 i ∨ Y.heap.size ≤ i) → PX P w gs i := fun i hi => by
    rcases hi with hi | hi
    · exact h.p2 i hi
    · exact ⟨Or.inr (by omega), by omega⟩
  have hkp : ∀ i, i ≠ gs → i < u.heap.size → u'.heap[i]? = u.heap[i]? := fun i hi hl => hu.block i hl (by intro e; injection e with e; exact hi e)
  refine ⟨⟨r', h1, qr, cr, ?_⟩, ⟨q, c, ⟨fun hp => hp.2 rfl, by omega, hb, ?_, rfl⟩⟩, hge, ?_⟩
  · have h4 := h2.mono (P' := PX P w gs) (fun i hi _ => hx i hi) (fun hp => by
      rcases hp.1 with hp | hp
      · exact h.pP hp
      · omega)
    exact h4.kept hu.size fun i hi hl => hkp i (by rcases hi with hi | hi; exact hi.2; omega) hl
  · exact (hrow.mono (P' := PX P w gs) fun i hi _ => hx i hi).kept hu.size fun i hi hl => hkp i hi.2 hl
  · refine ⟨hu.os.trans (h3.os.trans h.gr.os), hu.tape.trans (h3.tape.trans h.gr.tape), hu.output.trans (h3.output.trans h.gr.output), Nat.le_trans hws (Nat.le_trans h3.size hu.size), fun i hi hne => ?_⟩
    exact (hkp i (by omega) (by have := h3.size; omega)).trans ((h3.block i (by omega) hne).trans (h.gr.block i hi hne))
theorem OpB.no {P P2 : Nat → Prop} {w Y u : World} {g gs Z : Nat} {s' : JS} (h : OpB P w g gs P2 Y) (f : RfJ P2 Y g s' Z u) : RfJ P w g s' Z u := by
  obtain ⟨r', h1, ⟨qr, cr, h2⟩, h3⟩ := f
  have hws := h.gr.size
  have hgl := h.gl
  refine ⟨r', h1, ⟨qr, cr, h2.mono (fun i hi _ => ?_) (fun hp => ?_)⟩, ?_⟩
  · rcases hi with hi | hi
    · exact (h.p2 i hi).1
    · exact Or.inr (by omega)
  · rcases hp with hp | hp
    · exact h.pP hp
    · omega
  · exact ⟨h3.os.trans h.gr.os, h3.tape.trans h.gr.tape, h3.output.trans h.gr.output, Nat.le_trans hws h3.size, fun i hi hne => (h3.block i (by omega) hne).trans (h.gr.block i hi hne)⟩
theorem OpB.step {P P2 : Nat → Prop} {w Y u u' : World} {g gs Z : Nat} {s' : JS} (h : OpB P w g gs P2 Y) (f : RfJ P2 Y g s' Z u) (hu : u.grownBy u' (some gs)) : OpB P w g gs (fun i => P2 i ∨ Y.heap.size ≤ i) u' ∧ RfJ (fun i => P2 i ∨ Y.heap.size ≤ i) u' g s' Z u' := by
  obtain ⟨r', h1, ⟨qr, cr, h2⟩, h3⟩ := f
  have hws := h.gr.size
  have hgl := h.gl
  have hge := h.ge
  have hys := h.ys
  have hkp : ∀ i, i ≠ gs → i < u.heap.size → u'.heap[i]? = u.heap[i]? := fun i hi hl => hu.block i hl (by intro e; injection e with e; exact hi e)
  refine ⟨⟨h.pP, h2.pg, hgl, hge, Nat.lt_of_lt_of_le hys (Nat.le_trans h3.size hu.size), fun i hi => ?_, ?_⟩, ⟨r', h1, REnd.refl (h2.kept hu.size fun i hi hl => hkp i (by rcases hi with (hi | hi) | hi; exact (h.p2 i hi).2; omega; omega) hl)⟩⟩
  · rcases hi with hi | hi
    · exact h.p2 i hi
    · exact ⟨Or.inr (by omega), by omega⟩
  · refine ⟨hu.os.trans (h3.os.trans h.gr.os), hu.tape.trans (h3.tape.trans h.gr.tape), hu.output.trans (h3.output.trans h.gr.output), Nat.le_trans hws (Nat.le_trans h3.size hu.size), fun i hi hne => ?_⟩
    exact (hkp i (by omega) (by have := h3.size; omega)).trans ((h3.block i (by omega) hne).trans (h.gr.block i hi hne))
theorem rscan_one (q : Option Addr) (c : Nat) (l : List UInt8) (w : World) (h : SlOf encB 1 w q c l) (hl : l.length ≤ 1000000000000) :
    Calls Tryz.prog 50 #[.slice q l.length c] w fun e w' => (∃ q' c', e = .returned (.tuple #[.int .i64 (scN l), .slice q' (scC l).length c', .int .i64 ((scL l : Nat) : Int), .int .i64 (scE l)]) ∧ OwnK encC 63 3 w.heap.size w' q' c' (scC l)) ∧ Below w.heap.size w w' := by
  refine (refScan q c l w h hl).mono ?_
  rintro e w' ⟨h1, h2⟩
  refine ⟨?_, h2⟩
  rcases h1 with ⟨h, rfl⟩ | ⟨h, q', c', a, rfl, rfl, ho⟩
  · refine ⟨none, 0, ?_, ?_⟩
    · simp only [scN, scC, scL, scE, h, Bool.false_eq_true, if_false]; rfl
    · simp only [scC, h, Bool.false_eq_true, if_false]; exact OwnK.nil _ _
  · refine ⟨q', c', ?_, ?_⟩
    · simp only [scN, scC, scL, scE, scA, h, if_true]
    · simp only [scC, scA, h, if_true]; exact ho
/-- The new journal's box. -/
theorem op_start {P : Nat → Prop} {w V1 Y : World} {g : Nat} {s1 : JS} {Z : Nat} (hpg : ¬ P g) (hgl : g < w.heap.size) (f : RfJ P w g s1 Z V1) (hY : V1.alloc (.cells #[.pointer (some ⟨g, 0, none⟩), .slice none 0 0, .int .i64 0, .int .i64 0, .int .i64 0] 73) = Y) :
    (∃ P2, OpB P w g V1.heap.size P2 Y ∧ RfJ P2 Y g s1 Z Y) ∧ Y.heap[V1.heap.size]? = some (.cells #[.pointer (some ⟨g, 0, none⟩), .slice none 0 0, .int .i64 0, .int .i64 0, .int .i64 0] 73 (0, 0)) := by
  have bY : Below V1.heap.size V1 Y := by rw [← hY]; exact (Below.refl _ _).alloc (Nat.le_refl _) _
  have kY : Y.heap[V1.heap.size]? = some (.cells #[.pointer (some ⟨g, 0, none⟩), .slice none 0 0, .int .i64 0, .int .i64 0, .int .i64 0] 73 (0, 0)) := by rw [← hY]; exact heap_alloc_new _ _
  have hl : V1.heap.size < Y.heap.size := (Array.getElem?_eq_some_iff.1 kY).1
  obtain ⟨r1, rel1, ⟨q1, c1, hi1⟩, hg1⟩ := f
  have hws := hg1.size
  have hp2 : ¬ ((fun i => (P i ∨ w.heap.size ≤ i) ∧ i < V1.heap.size) g) := fun h => by
    rcases h.1 with h | h
    · exact hpg h
    · omega
  refine ⟨⟨fun i => (P i ∨ w.heap.size ≤ i) ∧ i < V1.heap.size, ⟨hpg, hp2, hgl, hws, hl, fun i hi => ⟨hi.1, by have := hi.2; omega⟩, ?_⟩, RfJ.refl ((hi1.mono (fun i hi hl => ⟨hi, hl⟩) hp2).below bY) rel1⟩, kY⟩
  exact ⟨bY.os.trans hg1.os, bY.tape.trans hg1.tape, bY.output.trans hg1.output, Nat.le_trans hws bY.size, fun i hi hne => (bY.block i (by omega)).trans (hg1.block i hi hne)⟩
end Go.Proofs.YtfigjfmldpfjkaaGreat
