/- DnfParts: both in form. -/
import Derived.Test.YtppkjlmdfcifgaaDnfPartsA
import Derived.Lib.QuietBelow
namespace Go.Proofs.Ytppkjlmdfcifgaa
open Go.RowKit Go.Sort

set_option maxRecDepth 100000 in
set_option maxHeartbeats 4000000 in
theorem parts_11 (a b : Nd) (va vb : Nv) (w : World) (ha : NdIn w va a) (hb : NdIn w vb b) (wa : wtN a ≤ 100000000) (wb : wtN b ≤ 100000000) (x y : List (List Lt)) (n m p : Nat) (ea : expE a 64 = 0) (eb : expE b 64 = 0) (xa' : expC a 64 = x) (yb' : expC b 64 = y) (hx : x.length = n) (hy : y.length = m) (n1 : 1 ≤ n) (m1 : 1 ≤ m) (n64 : n ≤ 64) (m64 : m ≤ 64) (hp : n * m = p) (sx : ∀ ls ∈ x, litBound ls ∧ ls.length ≤ 500000000 ∧ 1 ≤ ls.length) (sy : ∀ ls ∈ y, litBound ls ∧ ls.length ≤ 500000000 ∧ 1 ≤ ls.length)
    (eo : expE (joinT 4 [a, b]) 64 = 0) (ec : expE (joinT 3 [a, b]) 64 = 0) (co : expC (joinT 4 [a, b]) 64 = x ++ y) (cc : expC (joinT 3 [a, b]) 64 = crossL x y) (hA : n + m ≤ 64) (hB : p ≤ 64) :
    Calls Try.prog 17 #[va.val, vb.val] w fun e w' => e = .returned (.bool true) ∧ Below w.heap.size w w' := by
  obtain ⟨X, HX⟩ : ∃ X, (w.alloc (.cells #[.int .i64 va.kind, .string va.attr, .slice va.qi va.ni va.ci, .slice va.qw va.nw va.cw, .int .i64 va.lo, .int .i64 va.hi, .int .i64 va.op, .slice va.qk va.nk va.ck] 31)).alloc (.cells #[.int .i64 vb.kind, .string vb.attr, .slice vb.qi vb.ni vb.ci, .slice vb.qw vb.nw vb.cw, .int .i64 vb.lo, .int .i64 vb.hi, .int .i64 vb.op, .slice vb.qk vb.nk vb.ck] 31) = X := ⟨_, rfl⟩
  obtain ⟨xa, xb, bX, sX⟩ := twoM HX
  obtain ⟨a0, a1, a2, a3, a4, a5, a6, a7⟩ := of8' xa
  obtain ⟨b0, b1, b2, b3, b4, b5, b6, b7⟩ := of8' xb
  have la := heap_lt xa
  have lb := heap_lt xb
  have XA := hide xa
  have XB := hide xb
  have BX := hide bX
  have HA := hide (ha.keep bX)
  have HB := hide (hb.keep bX)
  have hfx := fixed8_any X
  have hEa := fun (W : World) (hW : Below X.heap.size X W) => expand_any a 64 va W ((unhide HA).keep hW) (by omega)
  have hEb := fun (W : World) (hW : Below X.heap.size X W) => expand_any b 64 vb W ((unhide HB).keep hW) (by omega)
  simp only [Nv.val] at hEa hEb ⊢
  clear ha hb bX xa xb
  have hOr := fun (M : Nat) (W : World) (hM : W.heap[M]? = some (.cells #[.int .i64 va.kind, .string va.attr, .slice va.qi va.ni va.ci, .slice va.qw va.nw va.cw, .int .i64 va.lo, .int .i64 va.hi, .int .i64 va.op, .slice va.qk va.nk va.ck, .int .i64 vb.kind, .string vb.attr, .slice vb.qi vb.ni vb.ci, .slice vb.qw vb.nw vb.cw, .int .i64 vb.lo, .int .i64 vb.hi, .int .i64 vb.op, .slice vb.qk vb.nk vb.ck] 31 (0, 0))) (hW : Below X.heap.size X W) => or_any (some ⟨M, 0, none⟩) 2 [a, b] W (nds_twoP hM ((unhide HA).keep hW) ((unhide HB).keep hW)) (by simp only [wtL]; omega)
  have hAn := fun (M : Nat) (W : World) (hM : W.heap[M]? = some (.cells #[.int .i64 va.kind, .string va.attr, .slice va.qi va.ni va.ci, .slice va.qw va.nw va.cw, .int .i64 va.lo, .int .i64 va.hi, .int .i64 va.op, .slice va.qk va.nk va.ck, .int .i64 vb.kind, .string vb.attr, .slice vb.qi vb.ni vb.ci, .slice vb.qw vb.nw vb.cw, .int .i64 vb.lo, .int .i64 vb.hi, .int .i64 vb.op, .slice vb.qk vb.nk vb.ck] 31 (0, 0))) (hW : Below X.heap.size X W) => and_any (some ⟨M, 0, none⟩) 2 [a, b] W (nds_twoP hM ((unhide HA).keep hW) ((unhide HB).keep hW)) (by simp only [wtL]; omega)
  have hEo := fun (v : Nv) (W : World) (h : NdIn W v (joinT 4 [a, b])) => expand_any (joinT 4 [a, b]) 64 v W h (by have := pair_wt 4 a b; omega)
  have hEc := fun (v : Nv) (W : World) (h : NdIn W v (joinT 3 [a, b])) => expand_any (joinT 3 [a, b]) 64 v W h (by have := pair_wt 3 a b; omega)
  simp only [Nv.val, List.length_cons, List.length_nil, Nat.zero_add] at hOr hAn hEo hEc
  rw [ea, xa'] at hEa
  rw [eb, yb'] at hEb
  rw [eo, co] at hEo
  rw [ec, cc] at hEc
  simp only [List.length_append, cross_len, hx, hy, hp] at hEa hEb hEo hEc
  have i1 : (n : Int) * (m : Int) = (p : Int) := by rw [← hp]; simp
  have p2 : p ≤ 4096 := by rw [← hp]; exact Nat.mul_le_mul n64 m64
  have d1 : decide ((n : Int) + (m : Int) ≤ 64) = true := by simp; omega
  have d2 : decide ((p : Int) ≤ 64) = true := by simp; omega
  have mixed : Try.prog.follows .mixedOrders = true := by kernel_rfl
  have HHX := hide hx
  have HHY := hide hy
  have HP := hide hp
  have SX := hide sx
  have SY := hide sy
  clear ea eb xa' yb' eo co ec cc hx hy hp sx sy
  go_enter Try.func17, Try.ntmps17
  go_wp2_with (first
    | (go_at_call 55; refine hfx.mono ?_; rintro e w1 ⟨rfl, b1'⟩; have B1 := hide b1'; (obtain ⟨d0, d1, d2, d3, d4, d5, d6, d7⟩ := of8' (((unhide B1).block _ la).trans (unhide XA))); (obtain ⟨f0, f1, f2, f3, f4, f5, f6, f7⟩ := of8' (((unhide B1).block _ lb).trans (unhide XB))); clear b1')
    | (go_at_call 56; have tst := unhide BA; clear tst; refine (hEc vn _ (unhide NC)).mono ?_; rintro e w7 ⟨⟨qc, cc', rfl, jc⟩, b7'⟩; simp only; have JC := hide jc.of; have JX7 := hide ((unhide JX6).below b7'); have JY7 := hide ((unhide JY6).below b7'); have JO7 := hide ((unhide JO6).below b7'); (obtain ⟨us, u1, u2, u3⟩ := unhide JX7); (obtain ⟨vs, v1, v2, v3⟩ := unhide JY7); have hus : us.length = n := u2.trans (unhide HHX); have hvs : vs.length = m := v2.trans (unhide HHY); have US := hide u1; have VS := hide v1; have U3 := hide (And.intro u2 u3); have V3 := hide (And.intro v2 v3); have B7 := hide (below_sub (unhide BA) b7'); clear b7' jc u1 u2 u3 v1 v2 v3)
    | (go_at_call 32; refine name_worldM ?_; intro Y hY; have bY : Below w5.heap.size w5 Y := (by rw [hY]; exact (Below.refl _ _).alloc (Nat.le_refl _) _); refine (hAn _ Y (by rw [hY]; exact box_nw _ _) (below_sub (unhide B5) bY)).mono ?_; rintro e w6 ⟨⟨vn, rfl, nn⟩, b6'⟩; simp only; have NC := hide nn.toIn; have bb := below_sub bY b6'; have JX6 := hide ((unhide JX5).below bb); have JY6 := hide ((unhide JY5).below bb); have JO6 := hide ((unhide JO).below bb); have BA := hide (below_sub (unhide B5) bb); clear hY bY b6' nn bb)
    | (go_at_call 56; have tst := unhide BO; clear tst; refine (hEo vo _ (unhide NO)).mono ?_; rintro e w5 ⟨⟨qo, co', rfl, jo⟩, b5'⟩; simp only; have JO := hide jo.of; have JX5 := hide ((unhide JX4).below b5'); have JY5 := hide ((unhide JY4).below b5'); have B5 := hide (below_sub (unhide BO) b5'); (obtain ⟨k0, k1, k2, k3, k4, k5, k6, k7⟩ := of8' (((unhide B5).block _ la).trans (unhide XA))); (obtain ⟨l0, l1, l2, l3, l4, l5, l6, l7⟩ := of8' (((unhide B5).block _ lb).trans (unhide XB))); clear b5' jo)
    | (go_at_call 33; refine name_worldM ?_; intro Y hY; have bY : Below w3.heap.size w3 Y := (by rw [hY]; exact (Below.refl _ _).alloc (Nat.le_refl _) _); refine (hOr _ Y (by rw [hY]; exact box_nw _ _) (below_sub (unhide B3) bY)).mono ?_; rintro e w4 ⟨⟨vo, rfl, no⟩, b4'⟩; simp only; have NO := hide no.toIn; have bb := below_sub bY b4'; have JX4 := hide ((unhide JX3).below bb); have JY4 := hide ((unhide JY).below bb); have BO := hide (below_sub (unhide B3) bb); clear hY bY b4' no bb)
    | (go_at_call 56; have tst := unhide B2; clear tst; refine (hEb _ (unhide B2)).mono ?_; rintro e w3 ⟨⟨qy, cy, rfl, jy⟩, b3'⟩; simp only; have JY := hide jy.of; have JX3 := hide ((unhide JX).below b3'); have B3 := hide (below_sub (unhide B2) b3'); (obtain ⟨h0, h1, h2, h3, h4, h5, h6, h7⟩ := of8' (((unhide B3).block _ la).trans (unhide XA))); (obtain ⟨i0, i1, i2, i3, i4, i5, i6, i7⟩ := of8' (((unhide B3).block _ lb).trans (unhide XB))); clear b3' jy)
    | (go_at_call 56; refine (hEa _ (unhide B1)).mono ?_; rintro e w2 ⟨⟨qx, cx, rfl, jx⟩, b2'⟩; simp only; have JX := hide jx.of; have B2 := hide (below_sub (unhide B1) b2'); (obtain ⟨g0, g1, g2, g3, g4, g5, g6, g7⟩ := of8' (((unhide B2).block _ lb).trans (unhide XB))); clear b2' jx)
    | (go_at_call 58; have h58 := sameCj_eq qo co' qz cz (x ++ y) w9 (unhide JO9) (unhide JZ) (fun ls h => by rcases List.mem_append.1 h with h | h; exact ⟨(unhide SX ls h).1, by have := (unhide SX ls h).2; omega⟩; exact ⟨(unhide SY ls h).1, by have := (unhide SY ls h).2; omega⟩) (by rw [List.length_append, unhide HHX, unhide HHY]; omega); rw [List.length_append, unhide HHX, unhide HHY] at h58; refine h58.mono ?_; rintro e w10 ⟨rfl, b10'⟩; have B10 := hide (below_sub (unhide B9) b10'); clear b10')
    | (at_builtin; refine wpList_appW rowQ (by rfl) _ _ rfl w7.heap.size q8 cp8 us qy cy vs n m (n + m) hus hvs rfl rfl rfl (unhide Hown8) ((unhide VS).below (unhide B8)).src (by unfold maxLen; omega) (by omega) (unhide B8).size ?_; intro qz cz w9 hown9 hb9; have B9 := hide ((unhide B8).trans hb9); have b9 := unhide B9; have JZ := hide (cjs_app hown9 (unhide U3).1 (unhide V3).1 (fun j u ls h1 h2 => ⟨((unhide U3).2 j u ls h1 h2).1, ((unhide U3).2 j u ls h1 h2).2.below b9⟩) (fun j u ls h1 h2 => ⟨((unhide V3).2 j u ls h1 h2).1, ((unhide V3).2 j u ls h1 h2).2.below b9⟩)); have JO9 := hide ((unhide JO7).below b9); clear hown9 hb9 b9)
    | (at_builtin; refine wpList_appW rowQ (by rfl) _ _ rfl w7.heap.size (some ⟨w7.heap.size, 0, none⟩) 0 [] qx cx us 0 n n rfl hus (by simp) rfl rfl (OwnK.made _ _ (Nat.le_refl _)) ((unhide US).below ((Below.refl _ _).alloc (Nat.le_refl _) _)).src (by unfold maxLen; omega) (by omega) (by simp) ?_; intro q8 cp8 w8 hown8 hb8; have Hown8 := hide hown8; have B8 := hide (((Below.refl w7.heap.size w7).alloc (Nat.le_refl _) (.cells #[] 69)).trans hb8); clear hown8 hb8))
  go_loopw [11] (fun i wr => ∃ k : Nat, k ≤ p ∧ i = .int .i64 k ∧ Below w7.heap.size w7 wr) (fun i _ => p - (intOf i).toNat)
  case atStart => exact ⟨0, by omega, rfl, unhide B10⟩
  case round =>
    obtain ⟨k, hk, rfl, hbel⟩ := hrel
    have HBl := hide hbel
    by_cases hlt : k < p
    · have hm0 : 0 < m := m1
      obtain ⟨F, hF⟩ : ∃ F, k / m = F := ⟨_, rfl⟩
      obtain ⟨E, hE⟩ : ∃ E, k % m = E := ⟨_, rfl⟩
      have hEm : E < m := by rw [← hE]; exact Nat.mod_lt _ hm0
      have hFn : F < n := by rw [← hF]; exact Nat.div_lt_of_lt_mul (by rw [Nat.mul_comm, unhide HP]; exact hlt)
      have hkk : F * m + E = k := by rw [← hF, ← hE, Nat.mul_comm]; exact Nat.div_add_mod k m
      obtain ⟨l, hl, _⟩ := get_at (l := x) (k := F) (by rw [unhide HHX]; exact hFn)
      obtain ⟨mm, hmm, _⟩ := get_at (l := y) (k := E) (by rw [unhide HHY]; exact hEm)
      have hcr := cross_get x y F E l mm hl hmm
      rw [unhide HHY, hkk] at hcr
      obtain ⟨bx, ox, q1, c1, hq1, hb1, l1, g1⟩ := ((unhide JX7).below hbel).at hl
      obtain ⟨by', oy, q2, c2, hq2, hb2, l2, g2⟩ := ((unhide JY7).below hbel).at hmm
      obtain ⟨bc, oc, q3, c3, hq3, hb3, l3, g3⟩ := ((unhide JC).below hbel).at hcr
      obtain ⟨z1, z2, z3⟩ := unhide SX l (List.mem_of_getElem? hl)
      obtain ⟨y1, y2, y3⟩ := unhide SY mm (List.mem_of_getElem? hmm)
      rw [List.length_append] at g3
      subst hq1 hq2 hq3
      obtain ⟨b4, o4, _, hq4, _⟩ := l3.at (j := 0) (l := (l ++ mm)[0]'(by rw [List.length_append]; omega)) (List.getElem?_eq_getElem _)
      subst hq4
      have hcap : l.length + mm.length ≤ c3 := by obtain ⟨us', s1, s2, _⟩ := l3; have := s1.2.1; rw [s2, List.length_append] at this; exact this
      have ki0 : (0 : Int) ≤ (k : Int) := by omega
      have ki1 : (k : Int) < (p : Int) := by omega
      have im : ¬ (m : Int) = 0 := by omega
      have td2 : (k : Int).tdiv (m : Int) = (F : Int) := by rw [← hF]; rfl
      have td3 : (k : Int).tmod (m : Int) = (E : Int) := by rw [← hE]; rfl
      have wF : IntKind.i64.wrap (F : Int) = (F : Int) := wrap_of _ (by omega) (by omega)
      have wE : IntKind.i64.wrap (E : Int) = (E : Int) := wrap_of _ (by omega) (by omega)
      have f0 : (0 : Int) ≤ (F : Int) := by omega
      have f1 : (F : Int) < (n : Int) := by omega
      have e0 : (0 : Int) ≤ (E : Int) := by omega
      have e1 : (E : Int) < (m : Int) := by omega
      have L1 := hide l1
      have L2 := hide l2
      have L3 := hide l3
      have G1 : ∀ n os, (grow (redrawn wr n) os).cell? ⟨bx, ox + F, none⟩ = some _ := cell_regrown g1
      have G2 : ∀ n os, (grow (redrawn wr n) os).cell? ⟨by', oy + E, none⟩ = some _ := cell_regrown g2
      have G3 : ∀ n os, (grow (redrawn wr n) os).cell? ⟨bc, oc + k, none⟩ = some _ := cell_regrown g3
      clear l1 l2 l3 g1 g2 g3 hl hmm hcr hbel hF hE
      go_wp2
      refine wp_region_quiet_below (by assumption) (by kernel_rfl) ?_
      repeat (go_big_quiet_step (fail))
      refine wpQuiet_nil ?_
      intro _ hw'
      obtain ⟨⟨dq, osq⟩, hw''⟩ := hw'
      subst hw''
      have P3 := G3 dq osq
      have nl : ((l.length : Int) + (mm.length : Int) != (l.length : Int) + (mm.length : Int)) = false := by simp
      have j0 : (0 : Int) ≤ (l.length : Int) := by omega
      have j1 : (l.length : Int) ≤ (c3 : Int) := by omega
      have j2 : (l.length : Int) ≤ (l.length : Int) + (mm.length : Int) := by omega
      have j3 : (l.length : Int) + (mm.length : Int) ≤ (c3 : Int) := by omega
      go_wp2_with (first
        | (go_at_call 70; have tst := unhide BS; clear tst; refine (sameLits_eq _ _ _ _ mm w12 (((unhide L3).drop.below (below_regrown _ _ _)).below (unhide BS)) (((unhide L2).below (below_regrown _ _ _)).below (unhide BS)) y1 (by omega)).mono ?_; rintro e w13 ⟨rfl, b13⟩; have BT := hide (below_sub (below_regrown wr dq osq) (below_sub (unhide BS) b13)); clear b13)
        | (go_at_call 70; refine (sameLits_eq _ _ _ _ l _ ((unhide L3).take.below (below_regrown _ _ _)) ((unhide L1).below (below_regrown _ _ _)) z1 (by omega)).mono ?_; rintro e w12 ⟨rfl, b12⟩; have BS := hide b12; have P4 := (b12.cell (p := ⟨bc, oc + k, none⟩) (by first | exact hb3 | (have := (below_regrown wr dq osq).size; simp only; omega))).trans P3; clear b12))
      exact ⟨⟨k + 1, by omega, by go_num, below_sub (unhide HBl) (unhide BT)⟩, by simp [intOf]; omega⟩
    · have ki1 : ¬ (k : Int) < (p : Int) := by omega
      go_wp2
      go_ret
      exact ⟨rfl, below_sub (unhide BX) (below_sub (unhide B7) (unhide HBl))⟩
set_option maxRecDepth 100000 in
set_option maxHeartbeats 4000000 in
theorem parts_10 (a b : Nd) (va vb : Nv) (w : World) (ha : NdIn w va a) (hb : NdIn w vb b) (wa : wtN a ≤ 100000000) (wb : wtN b ≤ 100000000) (x y : List (List Lt)) (n m p : Nat) (ea : expE a 64 = 0) (eb : expE b 64 = 0) (xa' : expC a 64 = x) (yb' : expC b 64 = y) (hx : x.length = n) (hy : y.length = m) (n1 : 1 ≤ n) (m1 : 1 ≤ m) (n64 : n ≤ 64) (m64 : m ≤ 64) (hp : n * m = p) (sx : ∀ ls ∈ x, litBound ls ∧ ls.length ≤ 500000000 ∧ 1 ≤ ls.length) (sy : ∀ ls ∈ y, litBound ls ∧ ls.length ≤ 500000000 ∧ 1 ≤ ls.length)
    (eo : expE (joinT 4 [a, b]) 64 = 0) (ec : expE (joinT 3 [a, b]) 64 = 13) (co : expC (joinT 4 [a, b]) 64 = x ++ y) (cc : expC (joinT 3 [a, b]) 64 = []) (hA : n + m ≤ 64) (hB : ¬ p ≤ 64) :
    Calls Try.prog 17 #[va.val, vb.val] w fun e w' => e = .returned (.bool true) ∧ Below w.heap.size w w' := by
  obtain ⟨X, HX⟩ : ∃ X, (w.alloc (.cells #[.int .i64 va.kind, .string va.attr, .slice va.qi va.ni va.ci, .slice va.qw va.nw va.cw, .int .i64 va.lo, .int .i64 va.hi, .int .i64 va.op, .slice va.qk va.nk va.ck] 31)).alloc (.cells #[.int .i64 vb.kind, .string vb.attr, .slice vb.qi vb.ni vb.ci, .slice vb.qw vb.nw vb.cw, .int .i64 vb.lo, .int .i64 vb.hi, .int .i64 vb.op, .slice vb.qk vb.nk vb.ck] 31) = X := ⟨_, rfl⟩
  obtain ⟨xa, xb, bX, sX⟩ := twoM HX
  obtain ⟨a0, a1, a2, a3, a4, a5, a6, a7⟩ := of8' xa
  obtain ⟨b0, b1, b2, b3, b4, b5, b6, b7⟩ := of8' xb
  have la := heap_lt xa
  have lb := heap_lt xb
  have XA := hide xa
  have XB := hide xb
  have BX := hide bX
  have HA := hide (ha.keep bX)
  have HB := hide (hb.keep bX)
  have hfx := fixed8_any X
  have hEa := fun (W : World) (hW : Below X.heap.size X W) => expand_any a 64 va W ((unhide HA).keep hW) (by omega)
  have hEb := fun (W : World) (hW : Below X.heap.size X W) => expand_any b 64 vb W ((unhide HB).keep hW) (by omega)
  simp only [Nv.val] at hEa hEb ⊢
  clear ha hb bX xa xb
  have hOr := fun (M : Nat) (W : World) (hM : W.heap[M]? = some (.cells #[.int .i64 va.kind, .string va.attr, .slice va.qi va.ni va.ci, .slice va.qw va.nw va.cw, .int .i64 va.lo, .int .i64 va.hi, .int .i64 va.op, .slice va.qk va.nk va.ck, .int .i64 vb.kind, .string vb.attr, .slice vb.qi vb.ni vb.ci, .slice vb.qw vb.nw vb.cw, .int .i64 vb.lo, .int .i64 vb.hi, .int .i64 vb.op, .slice vb.qk vb.nk vb.ck] 31 (0, 0))) (hW : Below X.heap.size X W) => or_any (some ⟨M, 0, none⟩) 2 [a, b] W (nds_twoP hM ((unhide HA).keep hW) ((unhide HB).keep hW)) (by simp only [wtL]; omega)
  have hAn := fun (M : Nat) (W : World) (hM : W.heap[M]? = some (.cells #[.int .i64 va.kind, .string va.attr, .slice va.qi va.ni va.ci, .slice va.qw va.nw va.cw, .int .i64 va.lo, .int .i64 va.hi, .int .i64 va.op, .slice va.qk va.nk va.ck, .int .i64 vb.kind, .string vb.attr, .slice vb.qi vb.ni vb.ci, .slice vb.qw vb.nw vb.cw, .int .i64 vb.lo, .int .i64 vb.hi, .int .i64 vb.op, .slice vb.qk vb.nk vb.ck] 31 (0, 0))) (hW : Below X.heap.size X W) => and_any (some ⟨M, 0, none⟩) 2 [a, b] W (nds_twoP hM ((unhide HA).keep hW) ((unhide HB).keep hW)) (by simp only [wtL]; omega)
  have hEo := fun (v : Nv) (W : World) (h : NdIn W v (joinT 4 [a, b])) => expand_any (joinT 4 [a, b]) 64 v W h (by have := pair_wt 4 a b; omega)
  have hEc := fun (v : Nv) (W : World) (h : NdIn W v (joinT 3 [a, b])) => expand_any (joinT 3 [a, b]) 64 v W h (by have := pair_wt 3 a b; omega)
  simp only [Nv.val, List.length_cons, List.length_nil, Nat.zero_add] at hOr hAn hEo hEc
  rw [ea, xa'] at hEa
  rw [eb, yb'] at hEb
  rw [eo, co] at hEo
  rw [ec, cc] at hEc
  simp only [List.length_append, List.length_nil, hx, hy] at hEa hEb hEo hEc
  have i1 : (n : Int) * (m : Int) = (p : Int) := by rw [← hp]; simp
  have p2 : p ≤ 4096 := by rw [← hp]; exact Nat.mul_le_mul n64 m64
  have d1 : decide ((n : Int) + (m : Int) ≤ 64) = true := by simp; omega
  have d2 : decide ((p : Int) ≤ 64) = false := by simp; omega
  have mixed : Try.prog.follows .mixedOrders = true := by kernel_rfl
  have HHX := hide hx
  have HHY := hide hy
  have HP := hide hp
  have SX := hide sx
  have SY := hide sy
  clear ea eb xa' yb' eo co ec cc hx hy hp sx sy
  go_enter Try.func17, Try.ntmps17
  go_wp2_with (first
    | (go_at_call 55; refine hfx.mono ?_; rintro e w1 ⟨rfl, b1'⟩; have B1 := hide b1'; (obtain ⟨d0, d1, d2, d3, d4, d5, d6, d7⟩ := of8' (((unhide B1).block _ la).trans (unhide XA))); (obtain ⟨f0, f1, f2, f3, f4, f5, f6, f7⟩ := of8' (((unhide B1).block _ lb).trans (unhide XB))); clear b1')
    | (go_at_call 56; have tst := unhide BA; clear tst; refine (hEc vn _ (unhide NC)).mono ?_; rintro e w7 ⟨⟨qc, cc', rfl, jc⟩, b7'⟩; simp only; have JC := hide jc.of; have JX7 := hide ((unhide JX6).below b7'); have JY7 := hide ((unhide JY6).below b7'); have JO7 := hide ((unhide JO6).below b7'); (obtain ⟨us, u1, u2, u3⟩ := unhide JX7); (obtain ⟨vs, v1, v2, v3⟩ := unhide JY7); have hus : us.length = n := u2.trans (unhide HHX); have hvs : vs.length = m := v2.trans (unhide HHY); have US := hide u1; have VS := hide v1; have U3 := hide (And.intro u2 u3); have V3 := hide (And.intro v2 v3); have B7 := hide (below_sub (unhide BA) b7'); clear b7' jc u1 u2 u3 v1 v2 v3)
    | (go_at_call 32; refine name_worldM ?_; intro Y hY; have bY : Below w5.heap.size w5 Y := (by rw [hY]; exact (Below.refl _ _).alloc (Nat.le_refl _) _); refine (hAn _ Y (by rw [hY]; exact box_nw _ _) (below_sub (unhide B5) bY)).mono ?_; rintro e w6 ⟨⟨vn, rfl, nn⟩, b6'⟩; simp only; have NC := hide nn.toIn; have bb := below_sub bY b6'; have JX6 := hide ((unhide JX5).below bb); have JY6 := hide ((unhide JY5).below bb); have JO6 := hide ((unhide JO).below bb); have BA := hide (below_sub (unhide B5) bb); clear hY bY b6' nn bb)
    | (go_at_call 56; have tst := unhide BO; clear tst; refine (hEo vo _ (unhide NO)).mono ?_; rintro e w5 ⟨⟨qo, co', rfl, jo⟩, b5'⟩; simp only; have JO := hide jo.of; have JX5 := hide ((unhide JX4).below b5'); have JY5 := hide ((unhide JY4).below b5'); have B5 := hide (below_sub (unhide BO) b5'); (obtain ⟨k0, k1, k2, k3, k4, k5, k6, k7⟩ := of8' (((unhide B5).block _ la).trans (unhide XA))); (obtain ⟨l0, l1, l2, l3, l4, l5, l6, l7⟩ := of8' (((unhide B5).block _ lb).trans (unhide XB))); clear b5' jo)
    | (go_at_call 33; refine name_worldM ?_; intro Y hY; have bY : Below w3.heap.size w3 Y := (by rw [hY]; exact (Below.refl _ _).alloc (Nat.le_refl _) _); refine (hOr _ Y (by rw [hY]; exact box_nw _ _) (below_sub (unhide B3) bY)).mono ?_; rintro e w4 ⟨⟨vo, rfl, no⟩, b4'⟩; simp only; have NO := hide no.toIn; have bb := below_sub bY b4'; have JX4 := hide ((unhide JX3).below bb); have JY4 := hide ((unhide JY).below bb); have BO := hide (below_sub (unhide B3) bb); clear hY bY b4' no bb)
    | (go_at_call 56; have tst := unhide B2; clear tst; refine (hEb _ (unhide B2)).mono ?_; rintro e w3 ⟨⟨qy, cy, rfl, jy⟩, b3'⟩; simp only; have JY := hide jy.of; have JX3 := hide ((unhide JX).below b3'); have B3 := hide (below_sub (unhide B2) b3'); (obtain ⟨h0, h1, h2, h3, h4, h5, h6, h7⟩ := of8' (((unhide B3).block _ la).trans (unhide XA))); (obtain ⟨i0, i1, i2, i3, i4, i5, i6, i7⟩ := of8' (((unhide B3).block _ lb).trans (unhide XB))); clear b3' jy)
    | (go_at_call 56; refine (hEa _ (unhide B1)).mono ?_; rintro e w2 ⟨⟨qx, cx, rfl, jx⟩, b2'⟩; simp only; have JX := hide jx.of; have B2 := hide (below_sub (unhide B1) b2'); (obtain ⟨g0, g1, g2, g3, g4, g5, g6, g7⟩ := of8' (((unhide B2).block _ lb).trans (unhide XB))); clear b2' jx)
    | (go_at_call 58; have h58 := sameCj_eq qo co' qz cz (x ++ y) w9 (unhide JO9) (unhide JZ) (fun ls h => by rcases List.mem_append.1 h with h | h; exact ⟨(unhide SX ls h).1, by have := (unhide SX ls h).2; omega⟩; exact ⟨(unhide SY ls h).1, by have := (unhide SY ls h).2; omega⟩) (by rw [List.length_append, unhide HHX, unhide HHY]; omega); rw [List.length_append, unhide HHX, unhide HHY] at h58; refine h58.mono ?_; rintro e w10 ⟨rfl, b10'⟩; have B10 := hide (below_sub (unhide B9) b10'); clear b10')
    | (at_builtin; refine wpList_appW rowQ (by rfl) _ _ rfl w7.heap.size q8 cp8 us qy cy vs n m (n + m) hus hvs rfl rfl rfl (unhide Hown8) ((unhide VS).below (unhide B8)).src (by unfold maxLen; omega) (by omega) (unhide B8).size ?_; intro qz cz w9 hown9 hb9; have B9 := hide ((unhide B8).trans hb9); have b9 := unhide B9; have JZ := hide (cjs_app hown9 (unhide U3).1 (unhide V3).1 (fun j u ls h1 h2 => ⟨((unhide U3).2 j u ls h1 h2).1, ((unhide U3).2 j u ls h1 h2).2.below b9⟩) (fun j u ls h1 h2 => ⟨((unhide V3).2 j u ls h1 h2).1, ((unhide V3).2 j u ls h1 h2).2.below b9⟩)); have JO9 := hide ((unhide JO7).below b9); clear hown9 hb9 b9)
    | (at_builtin; refine wpList_appW rowQ (by rfl) _ _ rfl w7.heap.size (some ⟨w7.heap.size, 0, none⟩) 0 [] qx cx us 0 n n rfl hus (by simp) rfl rfl (OwnK.made _ _ (Nat.le_refl _)) ((unhide US).below ((Below.refl _ _).alloc (Nat.le_refl _) _)).src (by unfold maxLen; omega) (by omega) (by simp) ?_; intro q8 cp8 w8 hown8 hb8; have Hown8 := hide hown8; have B8 := hide (((Below.refl w7.heap.size w7).alloc (Nat.le_refl _) (.cells #[] 69)).trans hb8); clear hown8 hb8))
  go_loopw [11] (fun i wr => ∃ k : Nat, k ≤ p ∧ i = .int .i64 k ∧ Below w7.heap.size w7 wr) (fun i _ => p - (intOf i).toNat)
  case atStart => exact ⟨0, by omega, rfl, unhide B10⟩
  case round =>
    obtain ⟨k, hk, rfl, hbel⟩ := hrel
    have HBl := hide hbel
    go_wp2
    go_ret
    exact ⟨rfl, below_sub (unhide BX) (below_sub (unhide B7) (unhide HBl))⟩
set_option maxRecDepth 100000 in
set_option maxHeartbeats 4000000 in
theorem parts_01 (a b : Nd) (va vb : Nv) (w : World) (ha : NdIn w va a) (hb : NdIn w vb b) (wa : wtN a ≤ 100000000) (wb : wtN b ≤ 100000000) (x y : List (List Lt)) (n m p : Nat) (ea : expE a 64 = 0) (eb : expE b 64 = 0) (xa' : expC a 64 = x) (yb' : expC b 64 = y) (hx : x.length = n) (hy : y.length = m) (n1 : 1 ≤ n) (m1 : 1 ≤ m) (n64 : n ≤ 64) (m64 : m ≤ 64) (hp : n * m = p) (sx : ∀ ls ∈ x, litBound ls ∧ ls.length ≤ 500000000 ∧ 1 ≤ ls.length) (sy : ∀ ls ∈ y, litBound ls ∧ ls.length ≤ 500000000 ∧ 1 ≤ ls.length)
    (eo : expE (joinT 4 [a, b]) 64 = 13) (ec : expE (joinT 3 [a, b]) 64 = 0) (co : expC (joinT 4 [a, b]) 64 = []) (cc : expC (joinT 3 [a, b]) 64 = crossL x y) (hA : ¬ n + m ≤ 64) (hB : p ≤ 64) :
    Calls Try.prog 17 #[va.val, vb.val] w fun e w' => e = .returned (.bool true) ∧ Below w.heap.size w w' := by
  obtain ⟨X, HX⟩ : ∃ X, (w.alloc (.cells #[.int .i64 va.kind, .string va.attr, .slice va.qi va.ni va.ci, .slice va.qw va.nw va.cw, .int .i64 va.lo, .int .i64 va.hi, .int .i64 va.op, .slice va.qk va.nk va.ck] 31)).alloc (.cells #[.int .i64 vb.kind, .string vb.attr, .slice vb.qi vb.ni vb.ci, .slice vb.qw vb.nw vb.cw, .int .i64 vb.lo, .int .i64 vb.hi, .int .i64 vb.op, .slice vb.qk vb.nk vb.ck] 31) = X := ⟨_, rfl⟩
  obtain ⟨xa, xb, bX, sX⟩ := twoM HX
  obtain ⟨a0, a1, a2, a3, a4, a5, a6, a7⟩ := of8' xa
  obtain ⟨b0, b1, b2, b3, b4, b5, b6, b7⟩ := of8' xb
  have la := heap_lt xa
  have lb := heap_lt xb
  have XA := hide xa
  have XB := hide xb
  have BX := hide bX
  have HA := hide (ha.keep bX)
  have HB := hide (hb.keep bX)
  have hfx := fixed8_any X
  have hEa := fun (W : World) (hW : Below X.heap.size X W) => expand_any a 64 va W ((unhide HA).keep hW) (by omega)
  have hEb := fun (W : World) (hW : Below X.heap.size X W) => expand_any b 64 vb W ((unhide HB).keep hW) (by omega)
  simp only [Nv.val] at hEa hEb ⊢
  clear ha hb bX xa xb
  have hOr := fun (M : Nat) (W : World) (hM : W.heap[M]? = some (.cells #[.int .i64 va.kind, .string va.attr, .slice va.qi va.ni va.ci, .slice va.qw va.nw va.cw, .int .i64 va.lo, .int .i64 va.hi, .int .i64 va.op, .slice va.qk va.nk va.ck, .int .i64 vb.kind, .string vb.attr, .slice vb.qi vb.ni vb.ci, .slice vb.qw vb.nw vb.cw, .int .i64 vb.lo, .int .i64 vb.hi, .int .i64 vb.op, .slice vb.qk vb.nk vb.ck] 31 (0, 0))) (hW : Below X.heap.size X W) => or_any (some ⟨M, 0, none⟩) 2 [a, b] W (nds_twoP hM ((unhide HA).keep hW) ((unhide HB).keep hW)) (by simp only [wtL]; omega)
  have hAn := fun (M : Nat) (W : World) (hM : W.heap[M]? = some (.cells #[.int .i64 va.kind, .string va.attr, .slice va.qi va.ni va.ci, .slice va.qw va.nw va.cw, .int .i64 va.lo, .int .i64 va.hi, .int .i64 va.op, .slice va.qk va.nk va.ck, .int .i64 vb.kind, .string vb.attr, .slice vb.qi vb.ni vb.ci, .slice vb.qw vb.nw vb.cw, .int .i64 vb.lo, .int .i64 vb.hi, .int .i64 vb.op, .slice vb.qk vb.nk vb.ck] 31 (0, 0))) (hW : Below X.heap.size X W) => and_any (some ⟨M, 0, none⟩) 2 [a, b] W (nds_twoP hM ((unhide HA).keep hW) ((unhide HB).keep hW)) (by simp only [wtL]; omega)
  have hEo := fun (v : Nv) (W : World) (h : NdIn W v (joinT 4 [a, b])) => expand_any (joinT 4 [a, b]) 64 v W h (by have := pair_wt 4 a b; omega)
  have hEc := fun (v : Nv) (W : World) (h : NdIn W v (joinT 3 [a, b])) => expand_any (joinT 3 [a, b]) 64 v W h (by have := pair_wt 3 a b; omega)
  simp only [Nv.val, List.length_cons, List.length_nil, Nat.zero_add] at hOr hAn hEo hEc
  rw [ea, xa'] at hEa
  rw [eb, yb'] at hEb
  rw [eo, co] at hEo
  rw [ec, cc] at hEc
  simp only [List.length_nil, cross_len, hx, hy, hp] at hEa hEb hEo hEc
  have i1 : (n : Int) * (m : Int) = (p : Int) := by rw [← hp]; simp
  have p2 : p ≤ 4096 := by rw [← hp]; exact Nat.mul_le_mul n64 m64
  have d1 : decide ((n : Int) + (m : Int) ≤ 64) = false := by simp; omega
  have d2 : decide ((p : Int) ≤ 64) = true := by simp; omega
  have mixed : Try.prog.follows .mixedOrders = true := by kernel_rfl
  have HHX := hide hx
  have HHY := hide hy
  have HP := hide hp
  have SX := hide sx
  have SY := hide sy
  clear ea eb xa' yb' eo co ec cc hx hy hp sx sy
  go_enter Try.func17, Try.ntmps17
  go_wp2_with (first
    | (go_at_call 55; refine hfx.mono ?_; rintro e w1 ⟨rfl, b1'⟩; have B1 := hide b1'; (obtain ⟨d0, d1, d2, d3, d4, d5, d6, d7⟩ := of8' (((unhide B1).block _ la).trans (unhide XA))); (obtain ⟨f0, f1, f2, f3, f4, f5, f6, f7⟩ := of8' (((unhide B1).block _ lb).trans (unhide XB))); clear b1')
    | (go_at_call 56; have tst := unhide BA; clear tst; refine (hEc vn _ (unhide NC)).mono ?_; rintro e w7 ⟨⟨qc, cc', rfl, jc⟩, b7'⟩; simp only; have JC := hide jc.of; have JX7 := hide ((unhide JX6).below b7'); have JY7 := hide ((unhide JY6).below b7'); have JO7 := hide ((unhide JO6).below b7'); (obtain ⟨us, u1, u2, u3⟩ := unhide JX7); (obtain ⟨vs, v1, v2, v3⟩ := unhide JY7); have hus : us.length = n := u2.trans (unhide HHX); have hvs : vs.length = m := v2.trans (unhide HHY); have US := hide u1; have VS := hide v1; have U3 := hide (And.intro u2 u3); have V3 := hide (And.intro v2 v3); have B7 := hide (below_sub (unhide BA) b7'); clear b7' jc u1 u2 u3 v1 v2 v3)
    | (go_at_call 32; refine name_worldM ?_; intro Y hY; have bY : Below w5.heap.size w5 Y := (by rw [hY]; exact (Below.refl _ _).alloc (Nat.le_refl _) _); refine (hAn _ Y (by rw [hY]; exact box_nw _ _) (below_sub (unhide B5) bY)).mono ?_; rintro e w6 ⟨⟨vn, rfl, nn⟩, b6'⟩; simp only; have NC := hide nn.toIn; have bb := below_sub bY b6'; have JX6 := hide ((unhide JX5).below bb); have JY6 := hide ((unhide JY5).below bb); have JO6 := hide ((unhide JO).below bb); have BA := hide (below_sub (unhide B5) bb); clear hY bY b6' nn bb)
    | (go_at_call 56; have tst := unhide BO; clear tst; refine (hEo vo _ (unhide NO)).mono ?_; rintro e w5 ⟨⟨qo, co', rfl, jo⟩, b5'⟩; simp only; have JO := hide jo.of; have JX5 := hide ((unhide JX4).below b5'); have JY5 := hide ((unhide JY4).below b5'); have B5 := hide (below_sub (unhide BO) b5'); (obtain ⟨k0, k1, k2, k3, k4, k5, k6, k7⟩ := of8' (((unhide B5).block _ la).trans (unhide XA))); (obtain ⟨l0, l1, l2, l3, l4, l5, l6, l7⟩ := of8' (((unhide B5).block _ lb).trans (unhide XB))); clear b5' jo)
    | (go_at_call 33; refine name_worldM ?_; intro Y hY; have bY : Below w3.heap.size w3 Y := (by rw [hY]; exact (Below.refl _ _).alloc (Nat.le_refl _) _); refine (hOr _ Y (by rw [hY]; exact box_nw _ _) (below_sub (unhide B3) bY)).mono ?_; rintro e w4 ⟨⟨vo, rfl, no⟩, b4'⟩; simp only; have NO := hide no.toIn; have bb := below_sub bY b4'; have JX4 := hide ((unhide JX3).below bb); have JY4 := hide ((unhide JY).below bb); have BO := hide (below_sub (unhide B3) bb); clear hY bY b4' no bb)
    | (go_at_call 56; have tst := unhide B2; clear tst; refine (hEb _ (unhide B2)).mono ?_; rintro e w3 ⟨⟨qy, cy, rfl, jy⟩, b3'⟩; simp only; have JY := hide jy.of; have JX3 := hide ((unhide JX).below b3'); have B3 := hide (below_sub (unhide B2) b3'); (obtain ⟨h0, h1, h2, h3, h4, h5, h6, h7⟩ := of8' (((unhide B3).block _ la).trans (unhide XA))); (obtain ⟨i0, i1, i2, i3, i4, i5, i6, i7⟩ := of8' (((unhide B3).block _ lb).trans (unhide XB))); clear b3' jy)
    | (go_at_call 56; refine (hEa _ (unhide B1)).mono ?_; rintro e w2 ⟨⟨qx, cx, rfl, jx⟩, b2'⟩; simp only; have JX := hide jx.of; have B2 := hide (below_sub (unhide B1) b2'); (obtain ⟨g0, g1, g2, g3, g4, g5, g6, g7⟩ := of8' (((unhide B2).block _ lb).trans (unhide XB))); clear b2' jx)
    )
  go_loopw [11] (fun i wr => ∃ k : Nat, k ≤ p ∧ i = .int .i64 k ∧ Below w7.heap.size w7 wr) (fun i _ => p - (intOf i).toNat)
  case atStart => exact ⟨0, by omega, rfl, Below.refl _ _⟩
  case round =>
    obtain ⟨k, hk, rfl, hbel⟩ := hrel
    have HBl := hide hbel
    by_cases hlt : k < p
    · have hm0 : 0 < m := m1
      obtain ⟨F, hF⟩ : ∃ F, k / m = F := ⟨_, rfl⟩
      obtain ⟨E, hE⟩ : ∃ E, k % m = E := ⟨_, rfl⟩
      have hEm : E < m := by rw [← hE]; exact Nat.mod_lt _ hm0
      have hFn : F < n := by rw [← hF]; exact Nat.div_lt_of_lt_mul (by rw [Nat.mul_comm, unhide HP]; exact hlt)
      have hkk : F * m + E = k := by rw [← hF, ← hE, Nat.mul_comm]; exact Nat.div_add_mod k m
      obtain ⟨l, hl, _⟩ := get_at (l := x) (k := F) (by rw [unhide HHX]; exact hFn)
      obtain ⟨mm, hmm, _⟩ := get_at (l := y) (k := E) (by rw [unhide HHY]; exact hEm)
      have hcr := cross_get x y F E l mm hl hmm
      rw [unhide HHY, hkk] at hcr
      obtain ⟨bx, ox, q1, c1, hq1, hb1, l1, g1⟩ := ((unhide JX7).below hbel).at hl
      obtain ⟨by', oy, q2, c2, hq2, hb2, l2, g2⟩ := ((unhide JY7).below hbel).at hmm
      obtain ⟨bc, oc, q3, c3, hq3, hb3, l3, g3⟩ := ((unhide JC).below hbel).at hcr
      obtain ⟨z1, z2, z3⟩ := unhide SX l (List.mem_of_getElem? hl)
      obtain ⟨y1, y2, y3⟩ := unhide SY mm (List.mem_of_getElem? hmm)
      rw [List.length_append] at g3
      subst hq1 hq2 hq3
      obtain ⟨b4, o4, _, hq4, _⟩ := l3.at (j := 0) (l := (l ++ mm)[0]'(by rw [List.length_append]; omega)) (List.getElem?_eq_getElem _)
      subst hq4
      have hcap : l.length + mm.length ≤ c3 := by obtain ⟨us', s1, s2, _⟩ := l3; have := s1.2.1; rw [s2, List.length_append] at this; exact this
      have ki0 : (0 : Int) ≤ (k : Int) := by omega
      have ki1 : (k : Int) < (p : Int) := by omega
      have im : ¬ (m : Int) = 0 := by omega
      have td2 : (k : Int).tdiv (m : Int) = (F : Int) := by rw [← hF]; rfl
      have td3 : (k : Int).tmod (m : Int) = (E : Int) := by rw [← hE]; rfl
      have wF : IntKind.i64.wrap (F : Int) = (F : Int) := wrap_of _ (by omega) (by omega)
      have wE : IntKind.i64.wrap (E : Int) = (E : Int) := wrap_of _ (by omega) (by omega)
      have f0 : (0 : Int) ≤ (F : Int) := by omega
      have f1 : (F : Int) < (n : Int) := by omega
      have e0 : (0 : Int) ≤ (E : Int) := by omega
      have e1 : (E : Int) < (m : Int) := by omega
      have L1 := hide l1
      have L2 := hide l2
      have L3 := hide l3
      have G1 : ∀ n os, (grow (redrawn wr n) os).cell? ⟨bx, ox + F, none⟩ = some _ := cell_regrown g1
      have G2 : ∀ n os, (grow (redrawn wr n) os).cell? ⟨by', oy + E, none⟩ = some _ := cell_regrown g2
      have G3 : ∀ n os, (grow (redrawn wr n) os).cell? ⟨bc, oc + k, none⟩ = some _ := cell_regrown g3
      clear l1 l2 l3 g1 g2 g3 hl hmm hcr hbel hF hE
      go_wp2
      refine wp_region_quiet_below (by assumption) (by kernel_rfl) ?_
      repeat (go_big_quiet_step (fail))
      refine wpQuiet_nil ?_
      intro _ hw'
      obtain ⟨⟨dq, osq⟩, hw''⟩ := hw'
      subst hw''
      have P3 := G3 dq osq
      have nl : ((l.length : Int) + (mm.length : Int) != (l.length : Int) + (mm.length : Int)) = false := by simp
      have j0 : (0 : Int) ≤ (l.length : Int) := by omega
      have j1 : (l.length : Int) ≤ (c3 : Int) := by omega
      have j2 : (l.length : Int) ≤ (l.length : Int) + (mm.length : Int) := by omega
      have j3 : (l.length : Int) + (mm.length : Int) ≤ (c3 : Int) := by omega
      go_wp2_with (first
        | (go_at_call 70; have tst := unhide BS; clear tst; refine (sameLits_eq _ _ _ _ mm w12 (((unhide L3).drop.below (below_regrown _ _ _)).below (unhide BS)) (((unhide L2).below (below_regrown _ _ _)).below (unhide BS)) y1 (by omega)).mono ?_; rintro e w13 ⟨rfl, b13⟩; have BT := hide (below_sub (below_regrown wr dq osq) (below_sub (unhide BS) b13)); clear b13)
        | (go_at_call 70; refine (sameLits_eq _ _ _ _ l _ ((unhide L3).take.below (below_regrown _ _ _)) ((unhide L1).below (below_regrown _ _ _)) z1 (by omega)).mono ?_; rintro e w12 ⟨rfl, b12⟩; have BS := hide b12; have P4 := (b12.cell (p := ⟨bc, oc + k, none⟩) (by first | exact hb3 | (have := (below_regrown wr dq osq).size; simp only; omega))).trans P3; clear b12))
      exact ⟨⟨k + 1, by omega, by go_num, below_sub (unhide HBl) (unhide BT)⟩, by simp [intOf]; omega⟩
    · have ki1 : ¬ (k : Int) < (p : Int) := by omega
      go_wp2
      go_ret
      exact ⟨rfl, below_sub (unhide BX) (below_sub (unhide B7) (unhide HBl))⟩
set_option maxRecDepth 100000 in
set_option maxHeartbeats 4000000 in
theorem parts_00 (a b : Nd) (va vb : Nv) (w : World) (ha : NdIn w va a) (hb : NdIn w vb b) (wa : wtN a ≤ 100000000) (wb : wtN b ≤ 100000000) (x y : List (List Lt)) (n m p : Nat) (ea : expE a 64 = 0) (eb : expE b 64 = 0) (xa' : expC a 64 = x) (yb' : expC b 64 = y) (hx : x.length = n) (hy : y.length = m) (n1 : 1 ≤ n) (m1 : 1 ≤ m) (n64 : n ≤ 64) (m64 : m ≤ 64) (hp : n * m = p) (sx : ∀ ls ∈ x, litBound ls ∧ ls.length ≤ 500000000 ∧ 1 ≤ ls.length) (sy : ∀ ls ∈ y, litBound ls ∧ ls.length ≤ 500000000 ∧ 1 ≤ ls.length)
    (eo : expE (joinT 4 [a, b]) 64 = 13) (ec : expE (joinT 3 [a, b]) 64 = 13) (co : expC (joinT 4 [a, b]) 64 = []) (cc : expC (joinT 3 [a, b]) 64 = []) (hA : ¬ n + m ≤ 64) (hB : ¬ p ≤ 64) :
    Calls Try.prog 17 #[va.val, vb.val] w fun e w' => e = .returned (.bool true) ∧ Below w.heap.size w w' := by
  obtain ⟨X, HX⟩ : ∃ X, (w.alloc (.cells #[.int .i64 va.kind, .string va.attr, .slice va.qi va.ni va.ci, .slice va.qw va.nw va.cw, .int .i64 va.lo, .int .i64 va.hi, .int .i64 va.op, .slice va.qk va.nk va.ck] 31)).alloc (.cells #[.int .i64 vb.kind, .string vb.attr, .slice vb.qi vb.ni vb.ci, .slice vb.qw vb.nw vb.cw, .int .i64 vb.lo, .int .i64 vb.hi, .int .i64 vb.op, .slice vb.qk vb.nk vb.ck] 31) = X := ⟨_, rfl⟩
  obtain ⟨xa, xb, bX, sX⟩ := twoM HX
  obtain ⟨a0, a1, a2, a3, a4, a5, a6, a7⟩ := of8' xa
  obtain ⟨b0, b1, b2, b3, b4, b5, b6, b7⟩ := of8' xb
  have la := heap_lt xa
  have lb := heap_lt xb
  have XA := hide xa
  have XB := hide xb
  have BX := hide bX
  have HA := hide (ha.keep bX)
  have HB := hide (hb.keep bX)
  have hfx := fixed8_any X
  have hEa := fun (W : World) (hW : Below X.heap.size X W) => expand_any a 64 va W ((unhide HA).keep hW) (by omega)
  have hEb := fun (W : World) (hW : Below X.heap.size X W) => expand_any b 64 vb W ((unhide HB).keep hW) (by omega)
  simp only [Nv.val] at hEa hEb ⊢
  clear ha hb bX xa xb
  have hOr := fun (M : Nat) (W : World) (hM : W.heap[M]? = some (.cells #[.int .i64 va.kind, .string va.attr, .slice va.qi va.ni va.ci, .slice va.qw va.nw va.cw, .int .i64 va.lo, .int .i64 va.hi, .int .i64 va.op, .slice va.qk va.nk va.ck, .int .i64 vb.kind, .string vb.attr, .slice vb.qi vb.ni vb.ci, .slice vb.qw vb.nw vb.cw, .int .i64 vb.lo, .int .i64 vb.hi, .int .i64 vb.op, .slice vb.qk vb.nk vb.ck] 31 (0, 0))) (hW : Below X.heap.size X W) => or_any (some ⟨M, 0, none⟩) 2 [a, b] W (nds_twoP hM ((unhide HA).keep hW) ((unhide HB).keep hW)) (by simp only [wtL]; omega)
  have hAn := fun (M : Nat) (W : World) (hM : W.heap[M]? = some (.cells #[.int .i64 va.kind, .string va.attr, .slice va.qi va.ni va.ci, .slice va.qw va.nw va.cw, .int .i64 va.lo, .int .i64 va.hi, .int .i64 va.op, .slice va.qk va.nk va.ck, .int .i64 vb.kind, .string vb.attr, .slice vb.qi vb.ni vb.ci, .slice vb.qw vb.nw vb.cw, .int .i64 vb.lo, .int .i64 vb.hi, .int .i64 vb.op, .slice vb.qk vb.nk vb.ck] 31 (0, 0))) (hW : Below X.heap.size X W) => and_any (some ⟨M, 0, none⟩) 2 [a, b] W (nds_twoP hM ((unhide HA).keep hW) ((unhide HB).keep hW)) (by simp only [wtL]; omega)
  have hEo := fun (v : Nv) (W : World) (h : NdIn W v (joinT 4 [a, b])) => expand_any (joinT 4 [a, b]) 64 v W h (by have := pair_wt 4 a b; omega)
  have hEc := fun (v : Nv) (W : World) (h : NdIn W v (joinT 3 [a, b])) => expand_any (joinT 3 [a, b]) 64 v W h (by have := pair_wt 3 a b; omega)
  simp only [Nv.val, List.length_cons, List.length_nil, Nat.zero_add] at hOr hAn hEo hEc
  rw [ea, xa'] at hEa
  rw [eb, yb'] at hEb
  rw [eo, co] at hEo
  rw [ec, cc] at hEc
  simp only [List.length_nil, hx, hy] at hEa hEb hEo hEc
  have i1 : (n : Int) * (m : Int) = (p : Int) := by rw [← hp]; simp
  have p2 : p ≤ 4096 := by rw [← hp]; exact Nat.mul_le_mul n64 m64
  have d1 : decide ((n : Int) + (m : Int) ≤ 64) = false := by simp; omega
  have d2 : decide ((p : Int) ≤ 64) = false := by simp; omega
  have mixed : Try.prog.follows .mixedOrders = true := by kernel_rfl
  have HHX := hide hx
  have HHY := hide hy
  have HP := hide hp
  have SX := hide sx
  have SY := hide sy
  clear ea eb xa' yb' eo co ec cc hx hy hp sx sy
  go_enter Try.func17, Try.ntmps17
  go_wp2_with (first
    | (go_at_call 55; refine hfx.mono ?_; rintro e w1 ⟨rfl, b1'⟩; have B1 := hide b1'; (obtain ⟨d0, d1, d2, d3, d4, d5, d6, d7⟩ := of8' (((unhide B1).block _ la).trans (unhide XA))); (obtain ⟨f0, f1, f2, f3, f4, f5, f6, f7⟩ := of8' (((unhide B1).block _ lb).trans (unhide XB))); clear b1')
    | (go_at_call 56; have tst := unhide BA; clear tst; refine (hEc vn _ (unhide NC)).mono ?_; rintro e w7 ⟨⟨qc, cc', rfl, jc⟩, b7'⟩; simp only; have JC := hide jc.of; have JX7 := hide ((unhide JX6).below b7'); have JY7 := hide ((unhide JY6).below b7'); have JO7 := hide ((unhide JO6).below b7'); (obtain ⟨us, u1, u2, u3⟩ := unhide JX7); (obtain ⟨vs, v1, v2, v3⟩ := unhide JY7); have hus : us.length = n := u2.trans (unhide HHX); have hvs : vs.length = m := v2.trans (unhide HHY); have US := hide u1; have VS := hide v1; have U3 := hide (And.intro u2 u3); have V3 := hide (And.intro v2 v3); have B7 := hide (below_sub (unhide BA) b7'); clear b7' jc u1 u2 u3 v1 v2 v3)
    | (go_at_call 32; refine name_worldM ?_; intro Y hY; have bY : Below w5.heap.size w5 Y := (by rw [hY]; exact (Below.refl _ _).alloc (Nat.le_refl _) _); refine (hAn _ Y (by rw [hY]; exact box_nw _ _) (below_sub (unhide B5) bY)).mono ?_; rintro e w6 ⟨⟨vn, rfl, nn⟩, b6'⟩; simp only; have NC := hide nn.toIn; have bb := below_sub bY b6'; have JX6 := hide ((unhide JX5).below bb); have JY6 := hide ((unhide JY5).below bb); have JO6 := hide ((unhide JO).below bb); have BA := hide (below_sub (unhide B5) bb); clear hY bY b6' nn bb)
    | (go_at_call 56; have tst := unhide BO; clear tst; refine (hEo vo _ (unhide NO)).mono ?_; rintro e w5 ⟨⟨qo, co', rfl, jo⟩, b5'⟩; simp only; have JO := hide jo.of; have JX5 := hide ((unhide JX4).below b5'); have JY5 := hide ((unhide JY4).below b5'); have B5 := hide (below_sub (unhide BO) b5'); (obtain ⟨k0, k1, k2, k3, k4, k5, k6, k7⟩ := of8' (((unhide B5).block _ la).trans (unhide XA))); (obtain ⟨l0, l1, l2, l3, l4, l5, l6, l7⟩ := of8' (((unhide B5).block _ lb).trans (unhide XB))); clear b5' jo)
    | (go_at_call 33; refine name_worldM ?_; intro Y hY; have bY : Below w3.heap.size w3 Y := (by rw [hY]; exact (Below.refl _ _).alloc (Nat.le_refl _) _); refine (hOr _ Y (by rw [hY]; exact box_nw _ _) (below_sub (unhide B3) bY)).mono ?_; rintro e w4 ⟨⟨vo, rfl, no⟩, b4'⟩; simp only; have NO := hide no.toIn; have bb := below_sub bY b4'; have JX4 := hide ((unhide JX3).below bb); have JY4 := hide ((unhide JY).below bb); have BO := hide (below_sub (unhide B3) bb); clear hY bY b4' no bb)
    | (go_at_call 56; have tst := unhide B2; clear tst; refine (hEb _ (unhide B2)).mono ?_; rintro e w3 ⟨⟨qy, cy, rfl, jy⟩, b3'⟩; simp only; have JY := hide jy.of; have JX3 := hide ((unhide JX).below b3'); have B3 := hide (below_sub (unhide B2) b3'); (obtain ⟨h0, h1, h2, h3, h4, h5, h6, h7⟩ := of8' (((unhide B3).block _ la).trans (unhide XA))); (obtain ⟨i0, i1, i2, i3, i4, i5, i6, i7⟩ := of8' (((unhide B3).block _ lb).trans (unhide XB))); clear b3' jy)
    | (go_at_call 56; refine (hEa _ (unhide B1)).mono ?_; rintro e w2 ⟨⟨qx, cx, rfl, jx⟩, b2'⟩; simp only; have JX := hide jx.of; have B2 := hide (below_sub (unhide B1) b2'); (obtain ⟨g0, g1, g2, g3, g4, g5, g6, g7⟩ := of8' (((unhide B2).block _ lb).trans (unhide XB))); clear b2' jx)
    )
  go_loopw [11] (fun i wr => ∃ k : Nat, k ≤ p ∧ i = .int .i64 k ∧ Below w7.heap.size w7 wr) (fun i _ => p - (intOf i).toNat)
  case atStart => exact ⟨0, by omega, rfl, Below.refl _ _⟩
  case round =>
    obtain ⟨k, hk, rfl, hbel⟩ := hrel
    have HBl := hide hbel
    go_wp2
    go_ret
    exact ⟨rfl, below_sub (unhide BX) (below_sub (unhide B7) (unhide HBl))⟩
theorem dnfParts_any (a b : Nd) (va vb : Nv) (w : World) (ha : NdIn w va a) (hb : NdIn w vb b) (wa : wtN a ≤ 100000000) (wb : wtN b ≤ 100000000) :
    Calls Try.prog 17 #[va.val, vb.val] w fun e w' => e = .returned (.bool true) ∧ Below w.heap.size w w' := by
  by_cases ea : expE a 64 = 0
  case neg => exact parts_none a b va vb w ha hb wa wb (Or.inl ea)
  by_cases eb : expE b 64 = 0
  case neg => exact parts_none a b va vb w ha hb wa wb (Or.inr eb)
  obtain ⟨ca, _, _, a4, a5, a6⟩ := exp_yes ea
  obtain ⟨cb, _, _, b4, b5, b6⟩ := exp_yes eb
  obtain ⟨j1, j2⟩ := cj_pair a b
  obtain ⟨k1, k2⟩ := chk_pair ca cb
  have o1 := exp_of k1
  have o2 := exp_of k2
  rw [j1, List.length_append] at o1
  rw [j2, cross_len] at o2
  have sm : ∀ t : Nd, chkN t = true → wtN t ≤ 100000000 → ∀ ls ∈ cjN (downN t false), litBound ls ∧ ls.length ≤ 500000000 ∧ 1 ≤ ls.length := fun t hc hw ls hl => by
    obtain ⟨h1, h2⟩ := cj_small _ ls hl
    have h3 := wt_down t false hc
    exact ⟨fun l h => by have := h2 l h; omega, by omega, cj_ne _ (chk_down t false hc) (at_down t false hc) ls hl⟩
  have sx := sm a ca wa
  have sy := sm b cb wb
  by_cases hA : (cjN (downN a false)).length + (cjN (downN b false)).length ≤ 64 <;> by_cases hB : (cjN (downN a false)).length * (cjN (downN b false)).length ≤ 64
  · exact parts_11 a b va vb w ha hb wa wb _ _ _ _ _ ea eb a6 b6 rfl rfl a5 b5 (by omega) (by omega) rfl sx sy (o1.1 hA).1 (o2.1 hB).1 (o1.1 hA).2 (o2.1 hB).2 hA hB
  · exact parts_10 a b va vb w ha hb wa wb _ _ _ _ _ ea eb a6 b6 rfl rfl a5 b5 (by omega) (by omega) rfl sx sy (o1.1 hA).1 (o2.2 hB) (o1.1 hA).2 (exp_none (by rw [o2.2 hB]; decide)) hA hB
  · exact parts_01 a b va vb w ha hb wa wb _ _ _ _ _ ea eb a6 b6 rfl rfl a5 b5 (by omega) (by omega) rfl sx sy (o1.2 hA) (o2.1 hB).1 (exp_none (by rw [o1.2 hA]; decide)) (o2.1 hB).2 hA hB
  · exact parts_00 a b va vb w ha hb wa wb _ _ _ _ _ ea eb a6 b6 rfl rfl a5 b5 (by omega) (by omega) rfl sx sy (o1.2 hA) (o2.2 hB) (exp_none (by rw [o1.2 hA]; decide)) (exp_none (by rw [o2.2 hB]; decide)) hA hB
end Go.Proofs.Ytppkjlmdfcifgaa
