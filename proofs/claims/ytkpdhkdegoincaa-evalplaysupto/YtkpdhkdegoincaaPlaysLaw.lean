/- The law EvalPlays returns true, whatever trees of bounded weight and whatever event it is given. -/
import Derived.Test.YtkpdhkdegoincaaRefTru
import Derived.Test.YtkpdhkdegoincaaMemP
import Derived.Test.YtkpdhkdegoincaaGrow
import Derived.Test.YtkpdhkdegoincaaMemNodeAt
import Derived.Test.YtkpdhkdegoincaaKeptNode
import Derived.Test.YtkpdhkdegoincaaEvFixed
import Derived.Lib.QuietBelow
import Derived.Deep.RegionHeld3
namespace Go.Proofs.Ytkpdhkdegoincaa
open Go.RowKit Go.Sort

theorem NdsOf.on2 {w wr : World} {q : Option Addr} {c : Nat} {l : List Nd} {j : Nat} {x : Nd} (h : NdsOf w q c l) (hj : l[j]? = some x) (hbel : Below w.heap.size w wr) :
    ∃ b off v, q = some ⟨b, off, none⟩ ∧ NdIn w v x ∧ wr.cell? ⟨b, off + j * 8, none⟩ = some (.int .i64 v.kind) ∧ wr.cell? ⟨b, off + j * 8 + 1, none⟩ = some (.string v.attr) ∧ wr.cell? ⟨b, off + j * 8 + 2, none⟩ = some (.slice v.qi v.ni v.ci) ∧ wr.cell? ⟨b, off + j * 8 + 3, none⟩ = some (.slice v.qw v.nw v.cw) ∧ wr.cell? ⟨b, off + j * 8 + 4, none⟩ = some (.int .i64 v.lo) ∧ wr.cell? ⟨b, off + j * 8 + 5, none⟩ = some (.int .i64 v.hi) ∧ wr.cell? ⟨b, off + j * 8 + 6, none⟩ = some (.int .i64 v.op) ∧ wr.cell? ⟨b, off + j * 8 + 7, none⟩ = some (.slice v.qk v.nk v.ck) := by
  obtain ⟨b, off, v, hq, hb, hin, c0, c1, c2, c3, c4, c5, c6, c7⟩ := h.at hj
  exact ⟨b, off, v, hq, hin, (hbel.cell hb).trans c0, (hbel.cell hb).trans c1, (hbel.cell hb).trans c2, (hbel.cell hb).trans c3, (hbel.cell hb).trans c4, (hbel.cell hb).trans c5, (hbel.cell hb).trans c6, (hbel.cell hb).trans c7⟩
theorem SlOf.off {α : Type} [Inhabited α] {enc : α → List Value} {k : Nat} {w w' : World} {q : Option Addr} {c : Nat} {l : List α} {r : Option Nat} (h : SlOf enc k w q c l) (hg : w.grownBy w' r) (hne : ∀ ad, q = some ad → some ad.block ≠ r) : SlOf enc k w' q c l :=
  ⟨h.1, h.2.1, h.2.2.1, fun h0 => by
    obtain ⟨b, off, hq, hlt, hc⟩ := h.2.2.2 h0
    exact ⟨b, off, hq, Nat.lt_of_lt_of_le hlt hg.size, fun j u hj => (World.cell?_of_block (w := w) (a := ⟨b, off + j, Option.none⟩) (hg.block b hlt (hne _ hq))).trans (hc j u hj)⟩⟩
theorem ownI_ge {B c : Nat} {w : World} {q : Option Addr} {l : List Int} (h : OwnK encI 3 1 B w q c l) : ∀ b, (Value.slice q l.length c).ownBlock = some b → B ≤ b ∧ b < w.heap.size := fun b e => World.ownsRow.lt h b e
theorem ownI_ad {B c : Nat} {w : World} {q : Option Addr} {l : List Int} (h : OwnK encI 3 1 B w q c l) : ∀ ad, q = some ad → B ≤ ad.block := fun ad e => by
  subst e
  rcases h.2 with ⟨h0, _⟩ | ⟨g', cap', cur, hv, hB, _⟩
  · cases h0
  · injection hv with h1
    cases h1
    exact hB
set_option maxRecDepth 100000 in
set_option maxHeartbeats 8000000 in
theorem evalPlays_any (q : Option Addr) (c : Nat) (nodes : List Nd) (qe : Option Addr) (ce : Nat) (ev : List Pr) (w : World) (hk : NdsOf w q c nodes) (hwt : wtL nodes ≤ 10000000) (he : SlOf encP 4 w qe ce ev) (hle : ev.length ≤ 1000000000) :
    Calls Try.prog 3 #[.slice q nodes.length c, .slice qe ev.length ce] w fun e w' => e = .returned (.bool true) ∧ Below w.heap.size w w' := by
  have mixed : Try.prog.follows .mixedOrders = true := by kernel_rfl
  have hfx := fixed_any w
  have hlen := Nat.le_trans (Nat.le_trans (len_size nodes) (sizeL_wt nodes)) hwt
  have a0 : (nodes.length : Int) ≤ 10000000 := by omega
  have HKw := hide hk
  have HEw := hide he
  have en8 : ∀ args w, (callFunc 8 args).run Try.prog w = .ok (.enter 8 args) w := enters_of Try.func8 (by kernel_rfl) rfl
  have en9 : ∀ args w, (callFunc 9 args).run Try.prog w = .ok (.enter 9 args) w := enters_of Try.func9 (by kernel_rfl) rfl
  have en10 : ∀ args w, (callFunc 10 args).run Try.prog w = .ok (.enter 10 args) w := enters_of Try.func10 (by kernel_rfl) rfl
  have en11 : ∀ args w, (callFunc 11 args).run Try.prog w = .ok (.enter 11 args) w := enters_of Try.func11 (by kernel_rfl) rfl
  have en12 : ∀ args w, (callFunc 12 args).run Try.prog w = .ok (.enter 12 args) w := enters_of Try.func12 (by kernel_rfl) rfl
  clear hk he
  go_enter Try.func3, Try.ntmps3
  go_wp2_with (first
    | (go_at_call 5; refine hfx.mono ?_; rintro e w1 ⟨rfl, b1⟩; have B1 := hide b1; clear b1)
    | (go_at_call 6; refine (memP qe ce ev w1 ((unhide HEw).below (unhide B1)) (by omega)).mono ?_; rintro e M ⟨⟨g, cp, rfl, hop, hcp⟩, bM⟩; have HP := hide hop; have BM := hide (below_sub (unhide B1) bM); clear hop bM))
  have HK := hide ((unhide HKw).below (unhide BM))
  have HE := hide ((unhide HEw).below (unhide BM))
  have HM1 := hide (show LsOf encP 4 M (some ⟨g, 0, none⟩) (ev ++ [spP]) from (unhide HP).ls.2.2.2)
  have hcm : cp ≤ maxLen := (unhide HP).ls.2.2.1
  have HM := hide (show SlOf encP 4 M (some ⟨g, 0, none⟩) cp ev from ⟨fun h => (by cases h), by omega, hcm, (unhide HM1).take (by decide)⟩)
  clear HKw HEw hfx
  go_loopw [6, 18] (fun m i wr => ∃ (k : Nat) (qm : Option Addr) (cm : Nat) (us : List Nv), k ≤ nodes.length ∧ i = .int .i64 k ∧ m = .slice qm k cm ∧ us.length = k ∧ OwnK encV 31 8 M.heap.size wr qm cm us ∧ OffP M.heap.size (MineIn M.heap.size nodes us) (Value.slice qm k cm).ownBlock wr ∧ Below M.heap.size M wr) (fun _ i _ => nodes.length - (intOf i).toNat)
  case atStart => exact ⟨0, none, 0, [], by omega, rfl, rfl, rfl, OwnK.nil _ _, fun w' _ _ j v x h => by simp at h, Below.refl _ _⟩
  case round =>
    obtain ⟨k, qm, cm, us, hkk, rfl, rfl, hus, hown, hoff, hbel⟩ := hrel
    obtain ⟨U, rfl⟩ : ∃ U, U = wr := ⟨_, rfl⟩
    by_cases hlt : k < nodes.length
    · obtain ⟨x, hx, hxd⟩ := get_at hlt
      clear hxd
      obtain ⟨b, off, v, hq, hin, g0, g1, g2, g3, g4, g5, g6, g7⟩ := (unhide HK).on2 hx hbel
      subst hq
      have hxm : x ∈ nodes := List.mem_of_getElem? hx
      have hxw := wtL_mem hxm
      have ki0 : (0 : Int) ≤ (k : Int) := by omega
      have ki1 : (k : Int) < (nodes.length : Int) := by omega
      obtain ⟨kind, attr, ints, words, lo, hi, op, kids⟩ := x
      obtain ⟨qi, ci, qw, cw, qk, ck, rfl, h1, h2, _⟩ := hin.parts
      obtain ⟨l1, l2, _⟩ := wtN_parts (Nat.le_trans hxw (Nat.le_trans hwt (by omega)))
      obtain ⟨Y, HY⟩ : ∃ Y, U.alloc (.cells #[.int .i64 kind, .string attr, .slice qi ints.length ci, .slice qw words.length cw, .int .i64 lo, .int .i64 hi, .int .i64 op, .slice qk kids.length ck] 31) = Y := ⟨_, rfl⟩
      have hM : Y.heap[U.heap.size]? = some (.cells #[.int .i64 kind, .string attr, .slice qi ints.length ci, .slice qw words.length cw, .int .i64 lo, .int .i64 hi, .int .i64 op, .slice qk kids.length ck] 31 (0, 0)) := by rw [← HY]; exact box_nw _ _
      have hUY : Below U.heap.size U Y := by rw [← HY]; exact (Below.refl _ _).alloc (Nat.le_refl _) _
      have hYs : Y.heap.size = U.heap.size + 1 := by rw [← HY]; simp
      obtain ⟨m0, m1, m2, m3, m4, m5, m6, m7⟩ := of8' hM
      have hN := node_any _ _ Y (hin.keep (below_sub hbel hUY)) (by omega)
      simp only [Nv.val] at hN
      have HIN := hide hin
      have H1 := hide h1
      have H2 := hide h2
      have HUY := hide hUY
      have HB := hide hbel
      have HO := hide hown
      have HF := hide hoff
      have HUS := hide hus
      have HXX := hide hx
      have HMY := hide hM
      have HXW := hide hxw
      have hUs := hbel.size
      have hL := hide (hown.ownLt hus)
      have hkm : k + 1 ≤ maxLen := by unfold maxLen; omega
      have hkb : (k + 1) * 120 ≤ 140737488355328 := by omega
      clear hin hx hxm hxw hUY hbel hown hoff hus hM h1 h2
      go_wp2_with (first
        | (go_at_call 7; refine hN.mono ?_; rintro e w2 ⟨⟨v', rfl, sp⟩, b2⟩; obtain ⟨qi', ci', qw', cw', qk', ck', hv', h1', h2', _⟩ := sp.toIn.parts; subst hv'; simp only; have SP := hide sp; have H1' := hide h1'; have H2' := hide h2'; have B2 := hide b2; have hs2 := b2.size; clear sp b2 h1' h2')
        | (at_builtin; obtain ⟨z1, z2, bz, sz⟩ := twoM (rfl : (w2.alloc (.cells #[.int .i64 kind, .string attr, .slice qi' ints.length ci', .slice qw' words.length cw', .int .i64 lo, .int .i64 hi, .int .i64 op, .slice qk' kids.length ck'] 31)).alloc (.cells #[.int .i64 kind, .string attr, .slice qi' ints.length ci', .slice qw' words.length cw', .int .i64 lo, .int .i64 hi, .int .i64 op, .slice qk' kids.length ck'] 31) = _); refine wpList_appG rowV rfl _ _ rfl M.heap.size qm cm us ⟨w2.heap.size + 1, 0, none⟩ 1 [(⟨kind, attr, qi', ints.length, ci', qw', words.length, cw', lo, hi, op, qk', kids.length, ck'⟩ : Nv)] k 1 (k + 1) (unhide HUS) rfl rfl rfl rfl (((unhide HO).below (unhide HUY)).below (below_sub (unhide B2) bz)) (node_src z2) hkm hkb (by omega) ?_; intro q3 c3 w3 ho3 hb3 hg3 hor3; have HO3 := hide ho3; have HG3 := hide hg3; have HR3 := hide hor3; have hne : some U.heap.size ≠ (Value.slice qm k cm).ownBlock := (fun e => by have := unhide hL _ e.symm; omega); have hne2 : some w2.heap.size ≠ (Value.slice qm k cm).ownBlock := (fun e => by have := unhide hL _ e.symm; omega); have B23 := hide (below_sub (unhide B2) bz); have BZ := hide bz; have n8 := (hg3.block U.heap.size (by omega) hne).trans (((unhide B23).block _ (by omega)).trans (unhide HMY)); have p8 := (hg3.block w2.heap.size (by omega) hne2).trans z1; have HU3 := hide (show Below M.heap.size M w3 from (below_sub (below_sub (unhide HB) (unhide HUY)) (unhide B23)).trans hb3); clear ho3 hb3 hg3 hor3 z1 z2 bz))
      obtain ⟨n0, n1, n2, n3, n4, n5, n6, n7⟩ := of8' n8
      obtain ⟨p0, p1, p2, p3, p4, p5, p6, p7⟩ := of8' p8
      have SPA := (unhide SP).keep (unhide BZ)
      have F3 : OffP M.heap.size (MineIn M.heap.size nodes (us ++ [(⟨kind, attr, qi', ints.length, ci', qw', words.length, cw', lo, hi, op, qk', kids.length, ck'⟩ : Nv)])) (Value.slice q3 (k + 1) c3).ownBlock w3 := (((((unhide HF).below (unhide HUY)).below (unhide B23)).step (unhide HG3) (unhide HR3)).and ((OffP.spin SPA (by omega) (fun b e => by have := unhide hL _ e; omega)).step (unhide HG3) (unhide HR3))).imp (fun W h => h.1.snoc (unhide HUS) (unhide HXX) (h.2.mono (by omega)))
      have hl3 : (us ++ [(⟨kind, attr, qi', ints.length, ci', qw', words.length, cw', lo, hi, op, qk', kids.length, ck'⟩ : Nv)]).length = k + 1 := by rw [List.length_append, unhide HUS]; rfl
      have SP3 : SpIn w3 M.heap.size (⟨kind, attr, qi', ints.length, ci', qw', words.length, cw', lo, hi, op, qk', kids.length, ck'⟩ : Nv) (.mk kind attr ints words lo hi op kids) := F3.now k _ _ (by rw [List.getElem?_append_right (by have := unhide HUS; omega), unhide HUS, Nat.sub_self]; rfl) (unhide HXX)
      obtain ⟨_, _, _, _, _, _, hv3, i1', i2', _⟩ := SP3.toIn.parts
      injection hv3 with e1 e2 e3 e4 e5 e6 e7 e8 e9 e10 e11 e12 e13 e14
      subst e3 e5 e6 e8 e12 e14
      clear e1 e2 e4 e7 e9 e10 e11 e13
      have HF3 := hide F3
      have xw := unhide HXW
      have q8 := fun (n : Nat) (os : Array Obj) => eval_any _ _ (some ⟨g, 0, none⟩) cp ev (grow (redrawn w3 n) os) (SP3.toIn.keep (below_regrown w3 n os)) ((unhide HM).below (below_sub (unhide HU3) (below_regrown w3 n os))) (by omega) (by omega)
      have q9 := fun (n : Nat) (os : Array Obj) => reval_any _ _ qe ce ev (grow (redrawn w3 n) os) ((unhide HIN).keep (below_sub (unhide HU3) (below_regrown w3 n os))) ((unhide HE).below (below_sub (unhide HU3) (below_regrown w3 n os))) (by omega) (by omega)
      have q10 := fun (n : Nat) (os : Array Obj) => holds_any kind attr qi' ci' ints qw' cw' words lo hi (some ⟨g, 0, none⟩) cp ev (grow (redrawn w3 n) os) (i1'.below (below_regrown w3 n os)) (i2'.below (below_regrown w3 n os)) ((unhide HM).below (below_sub (unhide HU3) (below_regrown w3 n os))) (by omega) (by omega) (by omega)
      have q11 := fun (n : Nat) (os : Array Obj) => refHolds_any kind attr qi ci ints qw cw words lo hi qe ce ev (grow (redrawn w3 n) os) ((unhide H1).below (below_sub (unhide HU3) (below_regrown w3 n os))) ((unhide H2).below (below_sub (unhide HU3) (below_regrown w3 n os))) (by omega) (by omega) ((unhide HE).below (below_sub (unhide HU3) (below_regrown w3 n os))) (by omega)
      have q12 := fun (n : Nat) (os : Array Obj) => kept_any _ M.heap.size _ _ (grow (redrawn w3 n) os) (SP3.keep (below_regrown w3 n os)) ((unhide HIN).keep (below_sub (unhide HU3) (below_regrown w3 n os))) (by omega)
      simp only [Nv.val] at q8 q9 q12
      clear SP3 SPA F3 i1' i2' hN n8 p8 xw m0 m1 m2 m3 m4 m5 m6 m7 g0 g1 g2 g3 g4 g5 g6 g7
      have N0 : ∀ n os, (grow (redrawn w3 n) os).cell? ⟨U.heap.size, 0, none⟩ = some _ := cell_regrown n0
      have N1 : ∀ n os, (grow (redrawn w3 n) os).cell? ⟨U.heap.size, 1, none⟩ = some _ := cell_regrown n1
      have N2 : ∀ n os, (grow (redrawn w3 n) os).cell? ⟨U.heap.size, 2, none⟩ = some _ := cell_regrown n2
      have N3 : ∀ n os, (grow (redrawn w3 n) os).cell? ⟨U.heap.size, 3, none⟩ = some _ := cell_regrown n3
      have N4 : ∀ n os, (grow (redrawn w3 n) os).cell? ⟨U.heap.size, 4, none⟩ = some _ := cell_regrown n4
      have N5 : ∀ n os, (grow (redrawn w3 n) os).cell? ⟨U.heap.size, 5, none⟩ = some _ := cell_regrown n5
      have N6 : ∀ n os, (grow (redrawn w3 n) os).cell? ⟨U.heap.size, 6, none⟩ = some _ := cell_regrown n6
      have N7 : ∀ n os, (grow (redrawn w3 n) os).cell? ⟨U.heap.size, 7, none⟩ = some _ := cell_regrown n7
      have P0 : ∀ n os, (grow (redrawn w3 n) os).cell? ⟨w2.heap.size, 0, none⟩ = some _ := cell_regrown p0
      have P1 : ∀ n os, (grow (redrawn w3 n) os).cell? ⟨w2.heap.size, 1, none⟩ = some _ := cell_regrown p1
      have P2 : ∀ n os, (grow (redrawn w3 n) os).cell? ⟨w2.heap.size, 2, none⟩ = some _ := cell_regrown p2
      have P3 : ∀ n os, (grow (redrawn w3 n) os).cell? ⟨w2.heap.size, 3, none⟩ = some _ := cell_regrown p3
      have P4 : ∀ n os, (grow (redrawn w3 n) os).cell? ⟨w2.heap.size, 4, none⟩ = some _ := cell_regrown p4
      have P5 : ∀ n os, (grow (redrawn w3 n) os).cell? ⟨w2.heap.size, 5, none⟩ = some _ := cell_regrown p5
      have P6 : ∀ n os, (grow (redrawn w3 n) os).cell? ⟨w2.heap.size, 6, none⟩ = some _ := cell_regrown p6
      have P7 : ∀ n os, (grow (redrawn w3 n) os).cell? ⟨w2.heap.size, 7, none⟩ = some _ := cell_regrown p7
      clear n0 n1 n2 n3 n4 n5 n6 n7 p0 p1 p2 p3 p4 p5 p6 p7
      cases hb1 : evalN ev (.mk kind attr ints words lo hi op kids) <;> cases hb2 : holdsB kind attr ints words lo hi ev
      all_goals
        rw [hb1] at q8 q9
        rw [hb2] at q10 q11
        clear hb1 hb2
        refine wp_region_quiet_below (by assumption) (by kernel_rfl) ?_
        repeat (go_big_quiet_step (first
          | (go_at_fn 8; refine Calls.regrown_of (q8 _ _))
          | (go_at_fn 9; refine Calls.regrown_of (q9 _ _))
          | (go_at_fn 10; refine Calls.regrown_of (q10 _ _))
          | (go_at_fn 11; refine Calls.regrown_of (q11 _ _))
          | (go_at_fn 12; refine Calls.regrown_of (q12 _ _))))
        refine wpQuiet_nil ?_
        intro _ hw'
        obtain ⟨⟨dq, osq⟩, hw''⟩ := hw'
        subst hw''
        go_wp2
        exact ⟨⟨k + 1, q3, c3, us ++ [(⟨kind, attr, qi', ints.length, ci', qw', words.length, cw', lo, hi, op, qk', kids.length, ck'⟩ : Nv)], by omega, by go_num, rfl, hl3, (unhide HO3).below (below_regrown _ _ _), (unhide HF3).below (below_regrown _ _ _), below_sub (unhide HU3) (below_regrown _ _ _)⟩, by simp [intOf]; omega⟩
    · have hkl : k = nodes.length := by omega
      subst hkl
      have ki1 : ¬ (nodes.length : Int) < (nodes.length : Int) := by omega
      have ND := hide (hoff.now.nds hown hus)
      have HB := hide hbel
      have hW1 := which_any ev (some ⟨g, 0, none⟩) cp qm cm nodes U ((unhide HM).below hbel) (unhide ND) (by omega) (by omega)
      have hW2 := fun (W : World) (hW : Below U.heap.size U W) => which_any ev (some ⟨g, 0, none⟩) cp qm cm nodes W ((unhide HM).below (below_sub (unhide HB) hW)) ((unhide ND).below hW) (by omega) (by omega)
      have hlw := whc_len ev nodes 0
      obtain ⟨l, hl⟩ : ∃ l, whc ev 0 nodes = l := ⟨_, rfl⟩
      have hR := fun (W : World) (hW : Below M.heap.size M W) => rwhich_any ev qe ce q c nodes W ((unhide HE).below hW) ((unhide HK).below hW) (by omega) (by omega)
      rw [hl] at hW1 hlw
      simp only [hl] at hW2 hR
      clear hown hoff hbel hlt hkk hl
      go_wp2_with (first
        | (go_at_call 14; refine (overI U.heap.size qa l.length ca w3 (by omega) (by have := (unhide B3).size; omega) ((unhide OA).below (unhide B3')).rawI).mono ?_; rintro e w4 ⟨rfl, g4⟩; have oa := unhide OA; have ob := unhide OB; have SB := hide (SlOf.off ob.ls g4 (fun ad h e => by have h1 := ownI_ad ob ad h; have h2 := (ownI_ge oa _ e.symm).2; omega)); have B4 := hide (show Below U.heap.size U w4 from (unhide B3).grown g4 (by have := (unhide B3).size; omega) (fun j e => (ownI_ge oa j e).1)); clear g4 oa ob)
        | (go_at_call 16; refine (hR _ (below_sub (unhide HB) (unhide B4))).mono ?_; rintro e w5 ⟨⟨qr, cr, rfl, hr⟩, b5⟩; have OR := hide hr; have SB5 := hide ((unhide SB).below b5); have B5 := hide (below_sub (unhide B4) b5); clear hr b5)
        | (go_at_call 15; refine (memEqI qb cb l qr cr l w5 (unhide SB5) (unhide OR).ls (by omega)).mono ?_; rw [decide_eq_true rfl]; rintro e w6 ⟨rfl, b6⟩; have B6 := hide (below_sub (unhide B5) b6); clear b6)
        | (go_at_call 17; refine (keptP g cp qe ce ev w6 (by omega) ((unhide HM1).below (below_sub (unhide HB) (unhide B6))) hcp hcm ((unhide HE).below (below_sub (unhide HB) (unhide B6)))).mono ?_; rintro e w7 ⟨rfl, b7⟩; have B7 := hide (below_sub (unhide B6) b7); clear b7)
        | (go_at_call 13; refine (hW2 _ (unhide B2)).mono ?_; rintro e w3 ⟨⟨qb, cb, rfl, hb⟩, b3⟩; have OB := hide hb; have B3' := hide b3; have B3 := hide (below_sub (unhide B2) b3); clear hb b3)
        | (go_at_call 13; refine hW1.mono ?_; rintro e w2 ⟨⟨qa, ca, rfl, ha⟩, b2⟩; have OA := hide ha; have B2 := hide b2; clear ha b2))
      go_ret
      exact ⟨rfl, below_sub (unhide BM) (below_sub (unhide HB) (unhide B7))⟩
end Go.Proofs.Ytkpdhkdegoincaa
