/- The document's reader: operands with a sign between. -/
import Derived.Test.YtencibjmiphinaaGreatDoorQPaR8
import Derived.Deep.CutBlock
import Derived.Test.YtencibjmiphinaaGreatDoorQPaJn
import Derived.Test.YtencibjmiphinaaGreatDoorQZai
namespace Go.Proofs.YtencibjmiphinaaGreatDoor
open Go.RowKit Go.Sort

/-- An operand, and those behind it. -/
def nkP (s : ByteArray) (f : Pz Nd) (ks : List Nd) : Pz (List Nd) := fun l => (f l).bnd fun x => chP s f (ks ++ [x])
theorem chL_nk (op : Int) (s : ByteArray) (f : Pz Nd) (l : List Tk) : chL op s f l = (nkP s f [] l).bnd fun ks r' => .ok (jnT op ks) r' := by
  rw [chL_eq]
  show (f l).bnd _ = _
  unfold nkP
  cases f l <;> rfl
theorem nk_more {s : ByteArray} {f : Int → Pz Nd} {ks : List Nd} {L : List Tk} {i j : Nat} {b : Bool} {x : Nd} (hd : ∀ en, Dec (f en)) (hm : ∀ en, Mt en L (f en (L.drop i)) x j b) (hs : isS s b (L.drop j) = true) : b = false ∧ (∀ en, nkP s (f en) ks (L.drop i) = nkP s (f en) (ks ++ [x]) (L.drop (j + 1))) ∧ j + 1 ≤ L.length ∧ i < j := by
  obtain ⟨rfl, r, hr⟩ := isS_some hs
  obtain ⟨t, h3, _⟩ := skL_is hr
  have e2 : L.drop (j + 1) = r := by rw [← List.tail_drop, h3]; rfl
  have hl := skL_len hr
  have ho : ∀ en, f en (L.drop i) = .ok x (L.drop j) := fun en => by
    have := hm en
    cases e : f en (L.drop i) with
    | bad p => rw [e] at this; exact absurd this.1 (by decide)
    | ok t r =>
      rw [e] at this
      obtain ⟨_, rfl, rfl⟩ := this
      rfl
  have hl2 := hd 0 _ _ _ (ho 0)
  simp at hl hl2
  refine ⟨rfl, fun en => ?_, by omega, by omega⟩
  unfold nkP
  rw [ho en]
  show chP s (f en) (ks ++ [x]) (L.drop j) = _
  rw [chP_eq (hd en)]
  simp only [brn, hr, e2]
theorem nk_end {s : ByteArray} {f : Int → Pz Nd} {ks : List Nd} {L : List Tk} {i j : Nat} {b : Bool} {x : Nd} (hd : ∀ en, Dec (f en)) (hm : ∀ en, Mt en L (f en (L.drop i)) x j b) (hs : isS s b (L.drop j) = false) (en : Int) : Mt en L (nkP s (f en) ks (L.drop i)) (ks ++ [x]) j b := by
  refine (hm en).bnd (fun hb => ?_) fun hb => ⟨rfl, hb⟩
  subst hb
  rw [chP_eq (hd en)]
  simp only [brn, isS_none hs]
  exact Mt.ret _
/-- Where the reader stands, read off its box. -/
def atR (g : Nat) (w : World) : Nat := match w.cell? ⟨g, 1, none⟩ with
  | some (.int _ n) => n.toNat
  | _ => 0
theorem Rd.at {w : World} {g i : Nat} {L : List Tk} {bad : Bool} (h : Rd w g L i bad) : atR g w = i := by
  obtain ⟨q, c, h0, _⟩ := h
  unfold atR; rw [(of3 h0).2.1]; simp
set_option maxRecDepth 100000 in
set_option maxHeartbeats 4000000 in
theorem chain3 (g : Nat) (L : List Tk) (n : Nat) (hn : n ≤ 1000000) (hF : ∀ (i : Nat) (W : World), (L.drop i).length ≤ n → Rd W g L i false → Calls Tryz.prog 56 #[.pointer (some ⟨g, 0, none⟩)] W fun e w' => NdA g L i oneP W e w') (hd : ∀ en, Dec (oneP en)) (i : Nat) (hl : (L.drop i).length ≤ n) (w : World) (h : Rd w g L i false) :
    Calls Tryz.prog 27 #[.pointer (some ⟨g, 0, none⟩), .int .i64 3] w fun e w' => NdA g L i (fun en => chL 3 ⟨#[38]⟩ (oneP en)) w e w' := by
  have hg := h.lt
  have hll := h.le.2
  have H0 := hide h.z
  have HF := hide hF
  have HD := hide hd
  clear h hF hd
  go_enter Tryz.func27, Tryz.ntmps27
  go_wp2
  go_loopw [6] (fun u wr => ∃ (ks : List Nd) (i1 : Nat) (q : Option Addr) (c : Nat), u = .slice q ks.length c ∧ Kd (w.heap.size + 1) ks q c wr ∧ Rx g L i1 false (w.alloc (.cells #[.int .i64 0, .string ⟨#[]⟩, .slice none 0 0, .slice none 0 0, .int .i64 0, .int .i64 0, .int .i64 0, .slice none 0 0] 29)) wr ∧ (∀ en, nkP ⟨#[38]⟩ (oneP en) [] (L.drop i) = nkP ⟨#[38]⟩ (oneP en) ks (L.drop i1)) ∧ ks.length + (L.drop i1).length ≤ n ∧ i1 ≤ L.length) (fun _ wr => L.length - atR g wr)
  case atStart => exact ⟨[], i, none, 0, rfl, Kd.nil _ _, ⟨unhide H0, grown_bel (RowKit.Below.refl _ _) _⟩, fun _ => rfl, by simpa using hl, (unhide H0).le.1⟩
  case round =>
    clear H0
    obtain ⟨ks, i1, q, c, rfl, hk, hx, hm, hlen, hil⟩ := hrel
    have HK := hide hk
    have HX := hide hx
    have HM0 := hide hm
    have hat := hx.1.at
    have hws := hx.2.size
    simp at hws
    have hl1 : (L.drop i1).length ≤ n := by omega
    have HL1 := hide hl1
    simp at hlen
    have hbd : ks.length + 1 ≤ 1000000 ∨ n ≤ 1000000 := Or.inr hn
    have hbk : ks.length ≤ 1000000 := by omega
    have HAT := hide hat
    have HLEN := hide hlen
    clear hk hx hm hl1 hlen hbd hat
    go_upto_region 8 with (first
      | (go_at_call 56; refine (unhide HF i1 _ (unhide HL1) (unhide HX).1).mono ?_; rintro e w4 ⟨x, j, b, ⟨v, rfl, hv, hr⟩, hm⟩; have X4 := hide ((unhide HX).trans hr); have G4 := hide hr.2; have HV := hide hv; have HS4 := hide hr.2.size; have HM := hide hm; obtain ⟨us, hu, ho, hf⟩ := unhide HK; have HU := hide hu; have HO := hide ho; have HFF := hide hf; clear hr hv hm hu ho hf; unfold Nv.val)
      | (at_builtin; refine wpList_appG rowV rfl _ _ rfl (w.heap.size + 1) q c us ⟨w4.heap.size, 0, none⟩ 1 [v] ks.length 1 (ks.length + 1) (unhide HU) rfl rfl rfl rfl (OwnK.below (own_far (unhide HO) (unhide G4) (by omega)) ((RowKit.Below.refl _ _).alloc (Nat.le_refl _) (.cells #[.int .i64 v.kind, .string v.attr, .slice v.qi v.ni v.ci, .slice v.qw v.nw v.cw, .int .i64 v.lo, .int .i64 v.hi, .int .i64 v.op, .slice v.qk v.nk v.ck] 29))) (oneV (box_nw _ _)) (by unfold maxLen; omega) (by omega) (by have a2 := unhide HS4; simp; omega) ?_; intro q2 cap2 w6 hown2 hb2 hg2 hor2; have HO2 := hide hown2; have HB2 := hide hb2; have HG2 := hide hg2; have HR2 := hide hor2; clear hown2 hb2 hg2 hor2))
    have K6 := hide (kd_snoc (unhide HU) (unhide HO) (unhide HFF) (unhide G4) (by omega) (unhide HV) (by omega) (unhide HO2) (unhide HG2) (unhide HR2))
    have hs4 := (unhide X4).2.size
    simp at hs4
    have X6 : Rx g L j b (w.alloc (.cells #[.int .i64 0, .string ⟨#[]⟩, .slice none 0 0, .slice none 0 0, .int .i64 0, .int .i64 0, .int .i64 0, .slice none 0 0] 29)) w6 := Rx.lowr ((unhide X4).bel ((RowKit.Below.refl _ _).alloc (Nat.le_refl _) (.cells #[.int .i64 v.kind, .string v.attr, .slice v.qi v.ni v.ci, .slice v.qw v.nw v.cw, .int .i64 v.lo, .int .i64 v.hi, .int .i64 v.op, .slice v.qk v.nk v.ck] 29))) (unhide HB2) (by simp) (by omega)
    have HX6 := hide X6
    clear X6 HB2 HG2 HR2 HO2 HU HO HFF G4 X4 hs4
    cases hs : isS ⟨#[38]⟩ b (L.drop j) with
    | true =>
      obtain ⟨rfl, h2, h3, h4⟩ := nk_more (ks := ks) (unhide HD) (unhide HM) hs
      have HE := hide (fun en => (unhide HM0 en).trans (h2 en))
      have HS := hide hs
      have H3 := hide h3
      have H4 := hide h4
      have a0 : (j : Int) ≤ 4096 := by omega
      clear hs h2 h3 h4
      go_wp2_with (go_at_call 57; refine (is_any g L j false _ _ (unhide HX6).1).mono ?_; rintro e w7 ⟨rfl, hb⟩; have X7 := hide ((unhide HX6).bel hb); have K7 := hide (Kd.far (unhide K6) (grown_bel hb (some g)) (by omega)); obtain ⟨q9, c9, _, _, _, _, c1, c2, cf, _⟩ := (unhide X7).1.cells; clear hb; rw [unhide HS])
      go_roundw
      have r8 := (unhide X7).1.inc (unhide H3)
      have h4 := unhide H4
      have h3 := unhide H3
      have hlen := unhide HLEN
      case rel => exact ⟨ks ++ [x], j + 1, q2, cap2, by simp, (unhide K7).far r8.2 (by omega), (unhide X7).trans r8, unhide HE, by simp; omega, h3⟩
      case measure => have h8 := ((unhide X7).trans ((unhide X7).1.inc (unhide H3))).1.at; have h9 := unhide HAT; have h4 := unhide H4; have h3 := unhide H3; rw [h8, h9]; omega
    | false =>
      have HE := hide (fun en => nk_end (ks := ks) (unhide HD) (unhide HM) hs en)
      have HS := hide hs
      clear hs
      by_cases h1 : ks.length = 0
      · have h2 : (ks ++ [x]).length = 1 := by simp [h1]
        obtain ⟨x1, v1, b1, hks, hq, _⟩ := kd_one (unhide K6) h2
        subst hq
        have HKS := hide hks
        have H2 := hide h2
        have hb1 : (((ks.length : Int) + 1) == 1) = true := by simp [h1]
        have hb2 : (((ks.length + 1 : Nat) : Int) == 1) = true := by simp [h1]
        have hb3 : (0 : Int) < (ks.length : Int) + 1 := by omega
        clear hks h1 h2
        go_wp2_with (go_at_call 57; refine (is_any g L j b _ _ (unhide HX6).1).mono ?_; rintro e w7 ⟨rfl, hb⟩; have X7 := hide ((unhide HX6).bel hb); have K7 := hide (Kd.far (unhide K6) (grown_bel hb (some g)) (by omega)); obtain ⟨x9, v9, b9, hk9, hq9, hv9, k0, k1, k2, k3, k4, k5, k6, k7⟩ := kd_one (unhide K7) (unhide H2); obtain rfl : b9 = b1 := (by cases hq9; rfl); have HK9 := hide hk9; have HV9 := hide hv9; obtain ⟨z1, ⟨y0, y1, y2, y3, y4, y5, y6, y7⟩, yf⟩ := res8 (unhide X7).2 hg; clear hb hk9 hq9 hv9; rw [unhide HS])
        refine bodyPost_ret (v := v9.val) (by simp [results, Tryz.results27, go_sem, Nv.val, *]) rfl ?_
        refine ⟨x9, j, b, fin8R (unhide X7) hg (unhide HV9) (by omega), fun en => ?_⟩
        show Mt en L (chL 3 ⟨#[38]⟩ (oneP en) (L.drop i)) x9 j b
        rw [chL_nk, unhide HM0 en]
        refine (unhide HE en).bnd (fun hb => ?_) fun hb => ⟨rfl, hb⟩
        subst hb
        rw [unhide HK9]
        exact Mt.ret _
      · have hb1 : (((ks.length : Int) + 1) == 1) = false := by rw [beq_eq_false_iff_ne]; omega
        have hb2 : (((ks.length + 1 : Nat) : Int) == 1) = false := by rw [beq_eq_false_iff_ne]; omega
        have hj : jnT 3 (ks ++ [x]) = .mk 0 ⟨#[]⟩ [] [] 0 0 3 (ks ++ [x]) := by
          unfold jnT
          split
          · rename_i h
            have := congrArg List.length h
            rw [List.length_append] at this
            simp only [List.length_cons, List.length_nil] at this
            omega
          · rfl
        have HJ := hide hj
        clear hj h1
        go_wp2_with (go_at_call 57; refine (is_any g L j b _ _ (unhide HX6).1).mono ?_; rintro e w7 ⟨rfl, hb⟩; have X7 := hide ((unhide HX6).bel hb); have K7 := hide (Kd.far (unhide K6) (grown_bel hb (some g)) (by omega)); obtain ⟨z1, ⟨y0, y1, y2, y3, y4, y5, y6, y7⟩, yf⟩ := res8 (unhide X7).2 hg; clear hb; rw [unhide HS])
        have h9 := fin8R (unhide X7) hg (kd_many 3 (unhide K7)) (Nat.lt_succ_self _)
        rw [List.length_append] at h9
        simp only [Nv.val, List.length_cons, List.length_nil, Nat.zero_add] at h9
        refine bodyPost_ret (v := .agg #[.int .i64 0, .string ⟨#[]⟩, .slice none 0 0, .slice none 0 0, .int .i64 0, .int .i64 0, .int .i64 3, .slice q2 (ks.length + 1) cap2]) (by simp [results, Tryz.results27, go_sem, *]) rfl ?_
        refine ⟨_, j, b, h9, fun en => ?_⟩
        show Mt en L (chL 3 ⟨#[38]⟩ (oneP en) (L.drop i)) _ j b
        rw [chL_nk, unhide HM0 en]
        refine (unhide HE en).bnd (fun hb => ?_) fun hb => ⟨rfl, hb⟩
        subst hb
        rw [unhide HJ]
        exact Mt.ret _
set_option maxRecDepth 100000 in
set_option maxHeartbeats 4000000 in
theorem chain4 (g : Nat) (L : List Tk) (n : Nat) (hn : n ≤ 1000000) (hF : ∀ (i : Nat) (W : World), (L.drop i).length ≤ n → Rd W g L i false → Calls Tryz.prog 27 #[.pointer (some ⟨g, 0, none⟩), .int .i64 3] W fun e w' => NdA g L i andP W e w') (hd : ∀ en, Dec (andP en)) (i : Nat) (hl : (L.drop i).length ≤ n) (w : World) (h : Rd w g L i false) :
    Calls Tryz.prog 27 #[.pointer (some ⟨g, 0, none⟩), .int .i64 4] w fun e w' => NdA g L i (fun en => chL 4 ⟨#[124]⟩ (andP en)) w e w' := by
  have hg := h.lt
  have hll := h.le.2
  have H0 := hide h.z
  have HF := hide hF
  have HD := hide hd
  clear h hF hd
  go_enter Tryz.func27, Tryz.ntmps27
  go_wp2
  go_loopw [6] (fun u wr => ∃ (ks : List Nd) (i1 : Nat) (q : Option Addr) (c : Nat), u = .slice q ks.length c ∧ Kd (w.heap.size + 1) ks q c wr ∧ Rx g L i1 false (w.alloc (.cells #[.int .i64 0, .string ⟨#[]⟩, .slice none 0 0, .slice none 0 0, .int .i64 0, .int .i64 0, .int .i64 0, .slice none 0 0] 29)) wr ∧ (∀ en, nkP ⟨#[124]⟩ (andP en) [] (L.drop i) = nkP ⟨#[124]⟩ (andP en) ks (L.drop i1)) ∧ ks.length + (L.drop i1).length ≤ n ∧ i1 ≤ L.length) (fun _ wr => L.length - atR g wr)
  case atStart => exact ⟨[], i, none, 0, rfl, Kd.nil _ _, ⟨unhide H0, grown_bel (RowKit.Below.refl _ _) _⟩, fun _ => rfl, by simpa using hl, (unhide H0).le.1⟩
  case round =>
    clear H0
    obtain ⟨ks, i1, q, c, rfl, hk, hx, hm, hlen, hil⟩ := hrel
    have HK := hide hk
    have HX := hide hx
    have HM0 := hide hm
    have hat := hx.1.at
    have hws := hx.2.size
    simp at hws
    have hl1 : (L.drop i1).length ≤ n := by omega
    have HL1 := hide hl1
    simp at hlen
    have hbd : ks.length + 1 ≤ 1000000 ∨ n ≤ 1000000 := Or.inr hn
    have hbk : ks.length ≤ 1000000 := by omega
    have HAT := hide hat
    have HLEN := hide hlen
    clear hk hx hm hl1 hlen hbd hat
    go_upto_region 8 with (first
      | (go_at_call 27; refine (unhide HF i1 _ (unhide HL1) (unhide HX).1).mono ?_; rintro e w4 ⟨x, j, b, ⟨v, rfl, hv, hr⟩, hm⟩; have X4 := hide ((unhide HX).trans hr); have G4 := hide hr.2; have HV := hide hv; have HS4 := hide hr.2.size; have HM := hide hm; obtain ⟨us, hu, ho, hf⟩ := unhide HK; have HU := hide hu; have HO := hide ho; have HFF := hide hf; clear hr hv hm hu ho hf; unfold Nv.val)
      | (at_builtin; refine wpList_appG rowV rfl _ _ rfl (w.heap.size + 1) q c us ⟨w4.heap.size, 0, none⟩ 1 [v] ks.length 1 (ks.length + 1) (unhide HU) rfl rfl rfl rfl (OwnK.below (own_far (unhide HO) (unhide G4) (by omega)) ((RowKit.Below.refl _ _).alloc (Nat.le_refl _) (.cells #[.int .i64 v.kind, .string v.attr, .slice v.qi v.ni v.ci, .slice v.qw v.nw v.cw, .int .i64 v.lo, .int .i64 v.hi, .int .i64 v.op, .slice v.qk v.nk v.ck] 29))) (oneV (box_nw _ _)) (by unfold maxLen; omega) (by omega) (by have a2 := unhide HS4; simp; omega) ?_; intro q2 cap2 w6 hown2 hb2 hg2 hor2; have HO2 := hide hown2; have HB2 := hide hb2; have HG2 := hide hg2; have HR2 := hide hor2; clear hown2 hb2 hg2 hor2))
    have K6 := hide (kd_snoc (unhide HU) (unhide HO) (unhide HFF) (unhide G4) (by omega) (unhide HV) (by omega) (unhide HO2) (unhide HG2) (unhide HR2))
    have hs4 := (unhide X4).2.size
    simp at hs4
    have X6 : Rx g L j b (w.alloc (.cells #[.int .i64 0, .string ⟨#[]⟩, .slice none 0 0, .slice none 0 0, .int .i64 0, .int .i64 0, .int .i64 0, .slice none 0 0] 29)) w6 := Rx.lowr ((unhide X4).bel ((RowKit.Below.refl _ _).alloc (Nat.le_refl _) (.cells #[.int .i64 v.kind, .string v.attr, .slice v.qi v.ni v.ci, .slice v.qw v.nw v.cw, .int .i64 v.lo, .int .i64 v.hi, .int .i64 v.op, .slice v.qk v.nk v.ck] 29))) (unhide HB2) (by simp) (by omega)
    have HX6 := hide X6
    clear X6 HB2 HG2 HR2 HO2 HU HO HFF G4 X4 hs4
    cases hs : isS ⟨#[124]⟩ b (L.drop j) with
    | true =>
      obtain ⟨rfl, h2, h3, h4⟩ := nk_more (ks := ks) (unhide HD) (unhide HM) hs
      have HE := hide (fun en => (unhide HM0 en).trans (h2 en))
      have HS := hide hs
      have H3 := hide h3
      have H4 := hide h4
      have a0 : (j : Int) ≤ 4096 := by omega
      clear hs h2 h3 h4
      go_wp2_with (go_at_call 57; refine (is_any g L j false _ _ (unhide HX6).1).mono ?_; rintro e w7 ⟨rfl, hb⟩; have X7 := hide ((unhide HX6).bel hb); have K7 := hide (Kd.far (unhide K6) (grown_bel hb (some g)) (by omega)); obtain ⟨q9, c9, _, _, _, _, c1, c2, cf, _⟩ := (unhide X7).1.cells; clear hb; rw [unhide HS])
      go_roundw
      have r8 := (unhide X7).1.inc (unhide H3)
      have h4 := unhide H4
      have h3 := unhide H3
      have hlen := unhide HLEN
      case rel => exact ⟨ks ++ [x], j + 1, q2, cap2, by simp, (unhide K7).far r8.2 (by omega), (unhide X7).trans r8, unhide HE, by simp; omega, h3⟩
      case measure => have h8 := ((unhide X7).trans ((unhide X7).1.inc (unhide H3))).1.at; have h9 := unhide HAT; have h4 := unhide H4; have h3 := unhide H3; rw [h8, h9]; omega
    | false =>
      have HE := hide (fun en => nk_end (ks := ks) (unhide HD) (unhide HM) hs en)
      have HS := hide hs
      clear hs
      by_cases h1 : ks.length = 0
      · have h2 : (ks ++ [x]).length = 1 := by simp [h1]
        obtain ⟨x1, v1, b1, hks, hq, _⟩ := kd_one (unhide K6) h2
        subst hq
        have HKS := hide hks
        have H2 := hide h2
        have hb1 : (((ks.length : Int) + 1) == 1) = true := by simp [h1]
        have hb2 : (((ks.length + 1 : Nat) : Int) == 1) = true := by simp [h1]
        have hb3 : (0 : Int) < (ks.length : Int) + 1 := by omega
        clear hks h1 h2
        go_wp2_with (go_at_call 57; refine (is_any g L j b _ _ (unhide HX6).1).mono ?_; rintro e w7 ⟨rfl, hb⟩; have X7 := hide ((unhide HX6).bel hb); have K7 := hide (Kd.far (unhide K6) (grown_bel hb (some g)) (by omega)); obtain ⟨x9, v9, b9, hk9, hq9, hv9, k0, k1, k2, k3, k4, k5, k6, k7⟩ := kd_one (unhide K7) (unhide H2); obtain rfl : b9 = b1 := (by cases hq9; rfl); have HK9 := hide hk9; have HV9 := hide hv9; obtain ⟨z1, ⟨y0, y1, y2, y3, y4, y5, y6, y7⟩, yf⟩ := res8 (unhide X7).2 hg; clear hb hk9 hq9 hv9; rw [unhide HS])
        refine bodyPost_ret (v := v9.val) (by simp [results, Tryz.results27, go_sem, Nv.val, *]) rfl ?_
        refine ⟨x9, j, b, fin8R (unhide X7) hg (unhide HV9) (by omega), fun en => ?_⟩
        show Mt en L (chL 4 ⟨#[124]⟩ (andP en) (L.drop i)) x9 j b
        rw [chL_nk, unhide HM0 en]
        refine (unhide HE en).bnd (fun hb => ?_) fun hb => ⟨rfl, hb⟩
        subst hb
        rw [unhide HK9]
        exact Mt.ret _
      · have hb1 : (((ks.length : Int) + 1) == 1) = false := by rw [beq_eq_false_iff_ne]; omega
        have hb2 : (((ks.length + 1 : Nat) : Int) == 1) = false := by rw [beq_eq_false_iff_ne]; omega
        have hj : jnT 4 (ks ++ [x]) = .mk 0 ⟨#[]⟩ [] [] 0 0 4 (ks ++ [x]) := by
          unfold jnT
          split
          · rename_i h
            have := congrArg List.length h
            rw [List.length_append] at this
            simp only [List.length_cons, List.length_nil] at this
            omega
          · rfl
        have HJ := hide hj
        clear hj h1
        go_wp2_with (go_at_call 57; refine (is_any g L j b _ _ (unhide HX6).1).mono ?_; rintro e w7 ⟨rfl, hb⟩; have X7 := hide ((unhide HX6).bel hb); have K7 := hide (Kd.far (unhide K6) (grown_bel hb (some g)) (by omega)); obtain ⟨z1, ⟨y0, y1, y2, y3, y4, y5, y6, y7⟩, yf⟩ := res8 (unhide X7).2 hg; clear hb; rw [unhide HS])
        have h9 := fin8R (unhide X7) hg (kd_many 4 (unhide K7)) (Nat.lt_succ_self _)
        rw [List.length_append] at h9
        simp only [Nv.val, List.length_cons, List.length_nil, Nat.zero_add] at h9
        refine bodyPost_ret (v := .agg #[.int .i64 0, .string ⟨#[]⟩, .slice none 0 0, .slice none 0 0, .int .i64 0, .int .i64 0, .int .i64 4, .slice q2 (ks.length + 1) cap2]) (by simp [results, Tryz.results27, go_sem, *]) rfl ?_
        refine ⟨_, j, b, h9, fun en => ?_⟩
        show Mt en L (chL 4 ⟨#[124]⟩ (andP en) (L.drop i)) _ j b
        rw [chL_nk, unhide HM0 en]
        refine (unhide HE en).bnd (fun hb => ?_) fun hb => ⟨rfl, hb⟩
        subst hb
        rw [unhide HJ]
        exact Mt.ret _
end Go.Proofs.YtencibjmiphinaaGreatDoor
namespace Go.Proofs.YtencibjmiphinaaGreatDoor
open Go.RowKit

theorem and_p (g : Nat) (en : Int) (n k : Nat) (hn : n ≤ 1000000) (hF : ∀ (l' : List Tk) (W : World), l'.length ≤ n → Ps W g en l' → Calls Tryz.prog 120 #[.pointer (some ⟨g, 0, none⟩)] W fun e w' => NdR g en W (onL en k l') e w') (l : List Tk) (w : World) (hl : l.length ≤ n) (hp : Ps w g en l) :
    Calls Tryz.prog 92 #[.pointer (some ⟨g, 0, none⟩)] w fun e w' => NdR g en w (anL en k l) e w' := by
  have hg := hp.lt
  have h0 := hp.z
  have hmf : ∀ (fn : Fn) (first cap : Array Value) (w : World), (Instr.makeFunc fn first cap).run Tryz.prog w = .ok (.func fn first cap) w := fun _ _ _ _ => rfl
  have hj := joined120 g en n (onL en k) hn hF (onL_rest k) l hl _ h0.1
  have hrw : anL en k l = chL 3 ⟨#[38]⟩ (onL en k) l := rfl
  rw [hrw]
  have H0 := hide h0
  clear h0 hF hp hrw
  cases ec : chL 3 ⟨#[38]⟩ (onL en k) l with
  | bad p =>
    have EC := hide ec
    clear ec
    go_enter Tryz.func92, Tryz.ntmps92
    go_wp2_with (go_at_call 91; refine hj.mono ?_; rintro e w1 hq; obtain ⟨rfl, hx⟩ := hq.bad (unhide EC); have X1 := hide hx; clear hx hq; simp only [refusal])
    exact ⟨rfl, rfl, gr_z (unhide X1)⟩
  | ok x r =>
    have EC := hide ec
    clear ec
    go_enter Tryz.func92, Tryz.ntmps92
    go_wp2_with (go_at_call 91; refine hj.mono ?_; rintro e w1 hq; obtain ⟨⟨v, rfl, hv⟩, hx⟩ := hq.ok (unhide EC); have X1 := hide hx; have HV := hide hv; clear hx hv hq; obtain ⟨z1, ⟨q0, q1, q2, q3, q4, q5, q6, q7⟩, qf⟩ := res8 (unhide X1).2 hg; unfold Nv.val)
    refine bodyPost_ret (v := v.val) (by simp [results, Tryz.results92, go_sem, Nv.val, *]) rfl ?_
    exact fin8 (unhide X1) hg (unhide HV) (by simp)
theorem or_p (g : Nat) (en : Int) (n k : Nat) (hn : n ≤ 1000000) (hF : ∀ (l' : List Tk) (W : World), l'.length ≤ n → Ps W g en l' → Calls Tryz.prog 92 #[.pointer (some ⟨g, 0, none⟩)] W fun e w' => NdR g en W (anL en k l') e w') (l : List Tk) (w : World) (hl : l.length ≤ n) (hp : Ps w g en l) :
    Calls Tryz.prog 52 #[.pointer (some ⟨g, 0, none⟩)] w fun e w' => NdR g en w (orL en k l) e w' := by
  have hg := hp.lt
  have h0 := hp.z
  have hmf : ∀ (fn : Fn) (first cap : Array Value) (w : World), (Instr.makeFunc fn first cap).run Tryz.prog w = .ok (.func fn first cap) w := fun _ _ _ _ => rfl
  have hj := joined92 g en n (anL en k) hn hF (chL_rest (onL_rest k)) l hl _ h0.1
  have hrw : orL en k l = chL 4 ⟨#[124]⟩ (anL en k) l := rfl
  rw [hrw]
  have H0 := hide h0
  clear h0 hF hp hrw
  cases ec : chL 4 ⟨#[124]⟩ (anL en k) l with
  | bad p =>
    have EC := hide ec
    clear ec
    go_enter Tryz.func52, Tryz.ntmps52
    go_wp2_with (go_at_call 91; refine hj.mono ?_; rintro e w1 hq; obtain ⟨rfl, hx⟩ := hq.bad (unhide EC); have X1 := hide hx; clear hx hq; simp only [refusal])
    exact ⟨rfl, rfl, gr_z (unhide X1)⟩
  | ok x r =>
    have EC := hide ec
    clear ec
    go_enter Tryz.func52, Tryz.ntmps52
    go_wp2_with (go_at_call 91; refine hj.mono ?_; rintro e w1 hq; obtain ⟨⟨v, rfl, hv⟩, hx⟩ := hq.ok (unhide EC); have X1 := hide hx; have HV := hide hv; clear hx hv hq; obtain ⟨z1, ⟨q0, q1, q2, q3, q4, q5, q6, q7⟩, qf⟩ := res8 (unhide X1).2 hg; unfold Nv.val)
    refine bodyPost_ret (v := v.val) (by simp [results, Tryz.results52, go_sem, Nv.val, *]) rfl ?_
    exact fin8 (unhide X1) hg (unhide HV) (by simp)
end Go.Proofs.YtencibjmiphinaaGreatDoor
namespace Go.Proofs.YtencibjmiphinaaGreatDoor
open Go.RowKit

set_option maxHeartbeats 4000000 in
theorem one_not (g : Nat) (en : Int) (n : Nat) (l r : List Tk) (w : World) (hp : Ps w g en l) (hs : skL ⟨#[33]⟩ l = some r) (hF : ∀ W, Ps W g en r → Calls Tryz.prog 120 #[.pointer (some ⟨g, 0, none⟩)] W fun e w' => NdR g en W (onL en n r) e w') :
    Calls Tryz.prog 120 #[.pointer (some ⟨g, 0, none⟩)] w fun e w' => NdR g en w (onL en (n + 1) l) e w' := by
  have hg := hp.lt
  have h0 := hp.z
  have hsk := skip_yes g en ⟨#[33]⟩ l r _ h0.1 hs
  have HF := hide hF
  clear hF hp h0
  cases ec : onL en n r with
  | bad p =>
    have hx : onL en (n + 1) l = .bad p := by simp only [onL, hs, ec]
    rw [hx]
    have EC := hide ec
    clear ec hs hx
    go_enter Tryz.func120, Tryz.ntmps120
    go_wp2_with first
      | (go_at_call 119; refine hsk.mono ?_; rintro e w3 ⟨rfl, hx⟩; have X3 := hide hx; clear hx)
      | (go_at_call 120; refine (unhide HF _ (unhide X3).1).mono ?_; rintro e w4 hq; obtain ⟨rfl, hx⟩ := hq.bad (unhide EC); have X4 := hide hx; clear hx hq; simp only [refusal])
    exact ⟨rfl, rfl, gr_z ((unhide X3).2.trans (unhide X4))⟩
  | ok x r' =>
    have hx : onL en (n + 1) l = .ok (.mk 0 ⟨#[]⟩ [] [] 0 0 2 [x]) r' := by simp only [onL, hs, ec]
    rw [hx]
    have EC := hide ec
    clear ec hs hx
    go_enter Tryz.func120, Tryz.ntmps120
    go_wp2_with first
      | (go_at_call 119; refine hsk.mono ?_; rintro e w3 ⟨rfl, hx⟩; have X3 := hide hx; have HS3 := hide hx.2.size; clear hx)
      | (go_at_call 120; refine (unhide HF _ (unhide X3).1).mono ?_; rintro e w4 hq; obtain ⟨⟨v, rfl, hv⟩, hx⟩ := hq.ok (unhide EC); have X4 := hide ((unhide X3).trans hx); have HV := hide hv; have HS4 := hide hx.2.size; clear hx hv hq; obtain ⟨z1, ⟨q0, q1, q2, q3, q4, q5, q6, q7⟩, qf⟩ := res8 (unhide X4).2 hg; unfold Nv.val)
    refine bodyPost_ret (v := .agg #[.int .i64 0, .string ⟨#[]⟩, .slice none 0 0, .slice none 0 0, .int .i64 0, .int .i64 0, .int .i64 2, .slice (some ⟨w4.heap.size, 0, none⟩) 1 1]) (by simp [results, Tryz.results120, go_sem, *]) rfl ?_
    have a3 := unhide HS3
    have a4 := unhide HS4
    simp at a3
    have hk := kd_many 2 (Kd.one (B := w.heap.size + 1) ((unhide HV).mono (by omega)) (by omega))
    have h9 := fin8 ((unhide X4).bel ((Below.refl _ _).alloc (Nat.le_refl _) (.cells #[.int .i64 v.kind, .string v.attr, .slice v.qi v.ni v.ci, .slice v.qw v.nw v.cw, .int .i64 v.lo, .int .i64 v.hi, .int .i64 v.op, .slice v.qk v.nk v.ck] 29))) hg hk (by omega)
    simp only [Nv.val] at h9
    rw [World.setCell_alloc_past _ _ _ _ z1, World.setCell_alloc_past _ _ _ _ (by simpa using z1), World.setCell_alloc_past _ _ _ _ (by simpa using z1), World.setCell_alloc_past _ _ _ _ (by simpa using z1), World.setCell_alloc_past _ _ _ _ (by simpa using z1), World.setCell_alloc_past _ _ _ _ (by simpa using z1), World.setCell_alloc_past _ _ _ _ (by simpa using z1), World.setCell_alloc_past _ _ _ _ (by simpa using z1)] at h9
    exact h9
end Go.Proofs.YtencibjmiphinaaGreatDoor
namespace Go.Proofs.YtencibjmiphinaaGreatDoor
open Go.RowKit

theorem blk_far {w w' : World} {g b : Nat} {o : Obj} (h : w.heap[b]? = some o) (hg : w.grownBy w' (some g)) (hne : b ≠ g) : w'.heap[b]? = some o := (hg.block b (Array.getElem?_eq_some_iff.1 h).1 (fun e => hne (by simpa using e))).trans h
set_option maxHeartbeats 4000000 in
theorem one_par (g : Nat) (en : Int) (n : Nat) (l r : List Tk) (w : World) (hp : Ps w g en l) (hs0 : skL ⟨#[33]⟩ l = none) (hs : skL ⟨#[40]⟩ l = some r) (hF : ∀ W, Ps W g en r → Calls Tryz.prog 52 #[.pointer (some ⟨g, 0, none⟩)] W fun e w' => NdR g en W (orL en n r) e w') :
    Calls Tryz.prog 120 #[.pointer (some ⟨g, 0, none⟩)] w fun e w' => NdR g en w (onL en (n + 1) l) e w' := by
  have hg := hp.lt
  have h0 := hp.z
  have hsn := skip_no g en ⟨#[33]⟩ l _ h0.1 hs0
  have hsk := skip_yes g en ⟨#[40]⟩ l r _ h0.1 hs
  have HF := hide hF
  clear hF hp h0
  cases ec : orL en n r with
  | bad p =>
    have hx : onL en (n + 1) l = .bad p := by unfold orL anL at ec; simp only [onL, hs, hs0, ec]
    rw [hx]
    have EC := hide ec
    clear ec hs hx hs0
    go_enter Tryz.func120, Tryz.ntmps120
    go_wp2_with first
      | (go_at_call 119; have tst := unhide M0; clear tst; refine hsk.mono ?_; rintro e w3 ⟨rfl, hx⟩; have X3 := hide hx; clear hx)
      | (go_at_call 119; refine hsn.mono ?_; rintro e w2 ⟨rfl, rfl⟩; have M0 := hide True.intro)
      | (go_at_call 52; refine (unhide HF _ (unhide X3).1).mono ?_; rintro e w4 hq; obtain ⟨rfl, hx⟩ := hq.bad (unhide EC); have X4 := hide hx; clear hx hq; simp only [refusal])
    exact ⟨rfl, rfl, gr_z ((unhide X3).2.trans (unhide X4))⟩
  | ok x r' =>
    cases eg : sgL en ⟨#[41]⟩ r' with
    | bad p =>
      have hx : onL en (n + 1) l = .bad p := by unfold orL anL at ec; simp only [onL, hs, hs0, ec, eg]
      rw [hx]
      have EC := hide ec
      have EG := hide eg
      clear ec hs hx hs0 eg
      go_enter Tryz.func120, Tryz.ntmps120
      go_wp2_with first
        | (go_at_call 119; have tst := unhide M0; clear tst; refine hsk.mono ?_; rintro e w3 ⟨rfl, hx⟩; have X3 := hide hx; clear hx)
        | (go_at_call 119; refine hsn.mono ?_; rintro e w2 ⟨rfl, rfl⟩; have M0 := hide True.intro)
        | (go_at_call 52; refine (unhide HF _ (unhide X3).1).mono ?_; rintro e w4 hq; obtain ⟨⟨v, rfl, hv⟩, hx⟩ := hq.ok (unhide EC); have X4 := hide ((unhide X3).trans hx); have HV := hide hv; have X5 := hide ((unhide X4).bel ((Below.refl _ _).alloc (Nat.le_refl _) (.cells #[.int .i64 v.kind, .string v.attr, .slice v.qi v.ni v.ci, .slice v.qw v.nw v.cw, .int .i64 v.lo, .int .i64 v.hi, .int .i64 v.op, .slice v.qk v.nk v.ck] 29))); clear hx hv hq; unfold Nv.val)
        | (go_at_call 140; refine (sign_no g en ⟨#[41]⟩ r' p _ (unhide X5).1 (unhide EG)).mono ?_; rintro e w6 ⟨rfl, rfl⟩; simp only [refusal])
      exact ⟨rfl, rfl, gr_z (unhide X5).2⟩
    | ok u r'' =>
      have hx : onL en (n + 1) l = .ok x r'' := by unfold orL anL at ec; simp only [onL, hs, hs0, ec, eg]
      rw [hx]
      have EC := hide ec
      have EG := hide eg
      clear ec hs hx hs0 eg
      go_enter Tryz.func120, Tryz.ntmps120
      go_wp2_with first
        | (go_at_call 119; have tst := unhide M0; clear tst; refine hsk.mono ?_; rintro e w3 ⟨rfl, hx⟩; have X3 := hide hx; have HS3 := hide hx.2.size; clear hx)
        | (go_at_call 119; refine hsn.mono ?_; rintro e w2 ⟨rfl, rfl⟩; have M0 := hide True.intro)
        | (go_at_call 52; refine (unhide HF _ (unhide X3).1).mono ?_; rintro e w4 hq; obtain ⟨⟨v, rfl, hv⟩, hx⟩ := hq.ok (unhide EC); have X4 := hide ((unhide X3).trans hx); have HV := hide hv; have HS4 := hide hx.2.size; have X5 := hide ((unhide X4).bel ((Below.refl _ _).alloc (Nat.le_refl _) (.cells #[.int .i64 v.kind, .string v.attr, .slice v.qi v.ni v.ci, .slice v.qw v.nw v.cw, .int .i64 v.lo, .int .i64 v.hi, .int .i64 v.op, .slice v.qk v.nk v.ck] 29))); clear hx hv hq; unfold Nv.val)
        | (go_at_call 140; refine (sign_yes g en ⟨#[41]⟩ r' r'' u _ (unhide X5).1 (unhide EG)).mono ?_; rintro e w6 ⟨rfl, hx⟩; have X6 := hide ((unhide X5).trans hx); have HB := hide (blk_far (box_nw w4 (.cells #[.int .i64 v.kind, .string v.attr, .slice v.qi v.ni v.ci, .slice v.qw v.nw v.cw, .int .i64 v.lo, .int .i64 v.hi, .int .i64 v.op, .slice v.qk v.nk v.ck] 29)) hx.2 (by have a3 := unhide HS3; have a4 := unhide HS4; simp at a3; omega)); obtain ⟨y0, y1, y2, y3, y4, y5, y6, y7⟩ := of8' (unhide HB); have G6 := hide hx.2; clear hx; obtain ⟨z1, ⟨q0, q1, q2, q3, q4, q5, q6, q7⟩, qf⟩ := res8 (unhide X6).2 hg)
      refine bodyPost_ret (v := v.val) (by simp [results, Tryz.results120, go_sem, Nv.val, *]) rfl ?_
      have a3 := unhide HS3
      have a4 := unhide HS4
      simp at a3
      have hv6 : NdFrom w6 w3.heap.size v x := ((unhide HV).keep ((Below.refl _ _).alloc (Nat.le_refl _) (.cells #[.int .i64 v.kind, .string v.attr, .slice v.qi v.ni v.ci, .slice v.qw v.nw v.cw, .int .i64 v.lo, .int .i64 v.hi, .int .i64 v.op, .slice v.qk v.nk v.ck] 29))).up ⟨(unhide G6).size, fun b o h1 h2 => (unhide G6).cell_far ⟨b, o, none⟩ h2 (fun e => by have e2 : b = g := (by simpa using e); omega)⟩
      exact fin8 (unhide X6) hg hv6 (by omega)
end Go.Proofs.YtencibjmiphinaaGreatDoor
namespace Go.Proofs.YtencibjmiphinaaGreatDoor
open Go.RowKit

theorem one_pred (g : Nat) (en : Int) (n : Nat) (l : List Tk) (w : World) (hp : Ps w g en l) (hs0 : skL ⟨#[33]⟩ l = none) (hs : skL ⟨#[40]⟩ l = none) :
    Calls Tryz.prog 120 #[.pointer (some ⟨g, 0, none⟩)] w fun e w' => NdR g en w (onL en (n + 1) l) e w' := by
  have hg := hp.lt
  have h0 := hp.z
  have hsn := skip_no g en ⟨#[33]⟩ l _ h0.1 hs0
  have hsk := skip_no g en ⟨#[40]⟩ l _ h0.1 hs
  have hj := prd_any g en l _ h0.1
  have hx : onL en (n + 1) l = prL en l := by simp only [onL, hs, hs0]
  rw [hx]
  clear hp h0 hx hs hs0
  cases ec : prL en l with
  | bad p =>
    have EC := hide ec
    clear ec
    go_enter Tryz.func120, Tryz.ntmps120
    go_wp2_with first
      | (go_at_call 119; have tst := unhide M0; clear tst; refine hsk.mono ?_; rintro e w3 ⟨rfl, rfl⟩)
      | (go_at_call 119; refine hsn.mono ?_; rintro e w2 ⟨rfl, rfl⟩; have M0 := hide True.intro)
      | (go_at_call 141; refine hj.mono ?_; rintro e w4 hq; obtain ⟨rfl, hx⟩ := hq.bad (unhide EC); have X4 := hide hx; clear hx hq; simp only [refusal])
    exact ⟨rfl, rfl, gr_z (unhide X4)⟩
  | ok x r =>
    have EC := hide ec
    clear ec
    go_enter Tryz.func120, Tryz.ntmps120
    go_wp2_with first
      | (go_at_call 119; have tst := unhide M0; clear tst; refine hsk.mono ?_; rintro e w3 ⟨rfl, rfl⟩)
      | (go_at_call 119; refine hsn.mono ?_; rintro e w2 ⟨rfl, rfl⟩; have M0 := hide True.intro)
      | (go_at_call 141; refine hj.mono ?_; rintro e w4 hq; obtain ⟨⟨v, rfl, hv⟩, hx⟩ := hq.ok (unhide EC); have X4 := hide hx; have HV := hide hv; clear hx hv hq; obtain ⟨z1, ⟨q0, q1, q2, q3, q4, q5, q6, q7⟩, qf⟩ := res8 (unhide X4).2 hg; unfold Nv.val)
    refine bodyPost_ret (v := v.val) (by simp [results, Tryz.results120, go_sem, Nv.val, *]) rfl ?_
    exact fin8 (unhide X4) hg (unhide HV) (by simp)
end Go.Proofs.YtencibjmiphinaaGreatDoor
namespace Go.Proofs.YtencibjmiphinaaGreatDoor
open Go.RowKit

theorem one_p (g : Nat) (en : Int) : ∀ (n : Nat), n ≤ 1000000 → ∀ (l : List Tk) (w : World), l.length < n → Ps w g en l →
    Calls Tryz.prog 120 #[.pointer (some ⟨g, 0, none⟩)] w fun e w' => NdR g en w (onL en n l) e w'
  | 0, _, l, w, hl, _ => by omega
  | n + 1, hn, l, w, hl, hp => by
    have ih := one_p g en n (by omega)
    cases hs : skL ⟨#[33]⟩ l with
    | some r =>
      have := skL_len hs
      exact one_not g en n l r w hp hs fun W hW => ih r W (by omega) hW
    | none =>
      cases hs2 : skL ⟨#[40]⟩ l with
      | some r =>
        have := skL_len hs2
        refine one_par g en n l r w hp hs hs2 fun W hW => ?_
        exact or_p g en (n - 1) n (by omega) (and_p g en (n - 1) n (by omega) fun l' W' h1 h2 => ih l' W' (by omega) h2) r W (by omega) hW
      | none => exact one_pred g en n l w hp hs hs2
theorem or_any5 (g : Nat) (en : Int) (n : Nat) (hn : n ≤ 1000000) (l : List Tk) (w : World) (hl : l.length < n) (hp : Ps w g en l) :
    Calls Tryz.prog 52 #[.pointer (some ⟨g, 0, none⟩)] w fun e w' => NdR g en w (orL en n l) e w' :=
  or_p g en (n - 1) n (by omega) (and_p g en (n - 1) n (by omega) fun l' W' h1 h2 => one_p g en n hn l' W' (by omega) h2) l w (by omega) hp
end Go.Proofs.YtencibjmiphinaaGreatDoor
