/- The law TreeBuilds returns true, whatever trees of bounded weight it is given. -/
import Derived.Test.YtmdkdkcjgjknoaaDoorFixed
import Derived.Test.YtmdkdkcjgjknoaaDoorJoin
import Derived.Test.YtmdkdkcjgjknoaaDoorGrow
import Derived.Test.YtmdkdkcjgjknoaaDoorMemNodeAt
import Derived.Test.YtmdkdkcjgjknoaaDoorKeptNode
import Derived.Test.YtmdkdkcjgjknoaaDoorRefPred
import Derived.Lib.QuietBelow
import Derived.Deep.RegionHeld3
namespace Go.Proofs.YtmdkdkcjgjknoaaDoor
open Go.RowKit Go.Sort

theorem chk_not (x : Nd) : chkN (notT x) = chkN x := by
  have h : nodeB 0 ⟨#[]⟩ [] [] 0 0 2 1 = true := by decide +kernel
  simp [notT, chkN, chkL, h]
theorem chk_join {op : Int} (hop : op = 3 ∨ op = 4) {kids : List Nd} (h : 2 ≤ kids.length) : chkN (joinT op kids) = chkL kids := by
  rw [joinT_many op h]
  have hz : zeroB 0 ⟨#[]⟩ 0 0 0 0 = true := by decide +kernel
  rcases hop with rfl | rfl <;> simp [chkN, nodeB, hz, h]
theorem nds_one {w : World} {M : Nat} {v : Nv} {x : Nd} (h : w.heap[M]? = some (.cells #[.int .i64 v.kind, .string v.attr, .slice v.qi v.ni v.ci, .slice v.qw v.nw v.cw, .int .i64 v.lo, .int .i64 v.hi, .int .i64 v.op, .slice v.qk v.nk v.ck] 28 (0, 0))) (hin : NdIn w v x) : NdsOf w (some ⟨M, 0, none⟩) 1 [x] :=
  ⟨[v], of_block (vs := [v]) h (by rw [flat_1]; rfl) (by simp), rfl, fun j u y hj hy => by
    match j, hj, hy with
    | 0, hj, hy => cases hj; cases hy; exact hin⟩
theorem not_in {w : World} {M : Nat} {v : Nv} {x : Nd} (h : w.heap[M]? = some (.cells #[.int .i64 v.kind, .string v.attr, .slice v.qi v.ni v.ci, .slice v.qw v.nw v.cw, .int .i64 v.lo, .int .i64 v.hi, .int .i64 v.op, .slice v.qk v.nk v.ck] 28 (0, 0))) (hin : NdIn w v x) : NdIn w ⟨0, ⟨#[]⟩, none, 0, 0, none, 0, 0, 0, 0, 2, some ⟨M, 0, none⟩, 1, 1⟩ (notT x) :=
  NdIn.make (ints := []) (words := []) (kids := [x]) (SlOf.none _) (SlOf.none _) (nds_one h hin)
theorem join_in {w : World} {q : Option Addr} {c : Nat} {kids : List Nd} (op : Int) (h : NdsOf w q c kids) (hl : 2 ≤ kids.length) : NdIn w ⟨0, ⟨#[]⟩, none, 0, 0, none, 0, 0, 0, 0, op, q, kids.length, c⟩ (joinT op kids) := by
  rw [joinT_many op hl]
  exact NdIn.make (ints := []) (words := []) (SlOf.none _) (SlOf.none _) h
theorem zero_in (w : World) : NdIn w ⟨0, ⟨#[]⟩, none, 0, 0, none, 0, 0, 0, 0, 0, none, 0, 0⟩ zeroT :=
  NdIn.make (ints := []) (words := []) (kids := []) (SlOf.none _) (SlOf.none _) ⟨[], SlOf.none _, rfl, fun j v x h => by simp at h⟩
theorem sameTT {t : Nd} (va vb : Nv) (w : World) (ha : NdIn w va t) (hb : NdIn w vb t) (ok : wtN t ≤ 1000000000) : Calls Tryd.prog 21 #[va.val, vb.val] w fun e w' => e = .returned (.bool true) ∧ Below w.heap.size w w' := by
  have := sameM_all t t va vb w ha hb (OkN.of_wt t ok)
  rwa [sameT_yes rfl] at this
theorem wtL_cons (x : Nd) (l : List Nd) : wtL (x :: l) = wtN x + wtL l := rfl
theorem wt_not (x : Nd) : wtN (notT x) = wtN x + 1 := by
  have e : (⟨#[]⟩ : ByteArray).size = 0 := rfl
  simp only [notT, wtN, wtL, wordsWt, List.length_nil, e]; omega
theorem wt_join (op : Int) (kids : List Nd) : wtN (joinT op kids) ≤ wtL kids + 1 := by
  have e : (⟨#[]⟩ : ByteArray).size = 0 := rfl
  match kids with
  | [] => simp [joinT, zeroT, wtN, wtL, wordsWt, e]
  | [x] => simp [joinT, wtL]
  | x :: y :: l => simp only [joinT, wtN, wordsWt, List.length_nil, e]; omega
theorem NdsOf.on2 {w wr : World} {q : Option Addr} {c : Nat} {l : List Nd} {j : Nat} {x : Nd} (h : NdsOf w q c l) (hj : l[j]? = some x) (hbel : Below w.heap.size w wr) :
    ∃ b off v, q = some ⟨b, off, none⟩ ∧ NdIn w v x ∧ wr.cell? ⟨b, off + j * 8, none⟩ = some (.int .i64 v.kind) ∧ wr.cell? ⟨b, off + j * 8 + 1, none⟩ = some (.string v.attr) ∧ wr.cell? ⟨b, off + j * 8 + 2, none⟩ = some (.slice v.qi v.ni v.ci) ∧ wr.cell? ⟨b, off + j * 8 + 3, none⟩ = some (.slice v.qw v.nw v.cw) ∧ wr.cell? ⟨b, off + j * 8 + 4, none⟩ = some (.int .i64 v.lo) ∧ wr.cell? ⟨b, off + j * 8 + 5, none⟩ = some (.int .i64 v.hi) ∧ wr.cell? ⟨b, off + j * 8 + 6, none⟩ = some (.int .i64 v.op) ∧ wr.cell? ⟨b, off + j * 8 + 7, none⟩ = some (.slice v.qk v.nk v.ck) := by
  obtain ⟨b, off, v, hq, hb, hin, c0, c1, c2, c3, c4, c5, c6, c7⟩ := h.at hj
  exact ⟨b, off, v, hq, hin, (hbel.cell hb).trans c0, (hbel.cell hb).trans c1, (hbel.cell hb).trans c2, (hbel.cell hb).trans c3, (hbel.cell hb).trans c4, (hbel.cell hb).trans c5, (hbel.cell hb).trans c6, (hbel.cell hb).trans c7⟩

set_option maxRecDepth 100000 in
set_option maxHeartbeats 8000000 in
theorem treeBuilds_any (q : Option Addr) (c : Nat) (kids : List Nd) (w : World) (hG : G w) (hk : NdsOf w q c kids) (hwt : wtL kids ≤ 10000000) :
    Calls Tryd.prog 6 #[.slice q kids.length c] w fun e w' => e = .returned (.bool true) ∧ Below w.heap.size w w' := by
  have mixed : Tryd.prog.follows .mixedOrders = true := by kernel_rfl
  have hfx := fixed_any w hG
  have hlen := Nat.le_trans (Nat.le_trans (len_size kids) (sizeL_wt kids)) hwt
  have a0 : (kids.length : Int) ≤ 10000000 := by omega
  have HK := hide hk
  have en20 : ∀ args w, (callFunc 20 args).run Tryd.prog w = .ok (.enter 20 args) w := enters_of Tryd.func20 (by kernel_rfl) rfl
  have en21 : ∀ args w, (callFunc 21 args).run Tryd.prog w = .ok (.enter 21 args) w := enters_of Tryd.func21 (by kernel_rfl) rfl
  clear hk
  go_enter Tryd.func6, Tryd.ntmps6
  go_wp2_with (go_at_call 9; refine hfx.mono ?_; rintro e w1 ⟨rfl, b1⟩; have B1 := hide b1; clear b1)
  go_loopw [3, 4, 16] (fun m all i wr => ∃ (k : Nat) (qm : Option Addr) (cm : Nat) (us : List Nv), k ≤ kids.length ∧ i = .int .i64 k ∧ all = .bool (chkL (kids.take k)) ∧ m = .slice qm k cm ∧ us.length = k ∧ OwnK encV 28 8 w.heap.size wr qm cm us ∧ OffP w.heap.size (MineIn w.heap.size kids us) (Value.slice qm k cm).ownBlock wr ∧ Below w.heap.size w wr) (fun _ _ i _ => kids.length - (intOf i).toNat)
  case atStart => exact ⟨0, none, 0, [], by omega, rfl, rfl, rfl, rfl, OwnK.nil _ _, fun w' _ _ j v x h => by simp at h, unhide B1⟩
  case round =>
    obtain ⟨k, qm, cm, us, hkk, rfl, rfl, rfl, hus, hown, hoff, hbel⟩ := hrel
    clear B1
    obtain ⟨U, rfl⟩ : ∃ U, U = wr := ⟨_, rfl⟩
    by_cases hlt : k < kids.length
    · obtain ⟨x, hx, hxd⟩ := get_at hlt
      clear hxd
      obtain ⟨b, off, v, hq, hin, g0, g1, g2, g3, g4, g5, g6, g7⟩ := (unhide HK).on2 hx hbel
      subst hq
      have hxm : x ∈ kids := List.mem_of_getElem? hx
      have hxw := wtL_mem hxm
      have ki0 : (0 : Int) ≤ (k : Int) := by omega
      have ki1 : (k : Int) < (kids.length : Int) := by omega
      obtain ⟨Y, HY⟩ : ∃ Y, U.alloc (.cells #[.int .i64 v.kind, .string v.attr, .slice v.qi v.ni v.ci, .slice v.qw v.nw v.cw, .int .i64 v.lo, .int .i64 v.hi, .int .i64 v.op, .slice v.qk v.nk v.ck] 28) = Y := ⟨_, rfl⟩
      have hM : Y.heap[U.heap.size]? = some (.cells #[.int .i64 v.kind, .string v.attr, .slice v.qi v.ni v.ci, .slice v.qw v.nw v.cw, .int .i64 v.lo, .int .i64 v.hi, .int .i64 v.op, .slice v.qk v.nk v.ck] 28 (0, 0)) := by rw [← HY]; exact box_nw _ _
      have hUY : Below U.heap.size U Y := by rw [← HY]; exact (Below.refl _ _).alloc (Nat.le_refl _) _
      have hYs : Y.heap.size = U.heap.size + 1 := by rw [← HY]; simp
      obtain ⟨m0, m1, m2, m3, m4, m5, m6, m7⟩ := of8' hM
      have hN := node_any x v Y (hin.keep (below_sub hbel hUY)) (by omega)
      have h13 := fun (W : World) (hW : Below w.heap.size w W) => checkT_any x v W (hin.keep hW) (by omega)
      simp only [Nv.val] at hN h13
      have HSN := hide (chkL_snoc hx)
      have HUY := hide hUY
      have HB := hide hbel
      have HO := hide hown
      have HF := hide hoff
      have HUS := hide hus
      have HXX := hide hx
      have HM := hide hM
      have hUs := hbel.size
      have hL := hide (hown.ownLt hus)
      have hkm : k + 1 ≤ maxLen := by unfold maxLen; omega
      have hkb : (k + 1) * 120 ≤ 140737488355328 := by omega
      clear hin hx hxm hxw hUY hbel hown hoff hus hM hfx hwt hlen
      cases hb : chkL (kids.take k) <;> cases hcx : chkN x
      all_goals
        rw [hb, hcx] at HSN
        rw [hcx] at h13
        first | rw [show code true = 0 from rfl] at h13 | rw [show code false = 1 from rfl] at h13
        clear hb hcx
        go_wp2_with (first
          | (go_at_call 10; refine hN.mono ?_; rintro e w2 ⟨⟨v', rfl, sp⟩, b2⟩; simp only; have SP := hide sp; have B2 := hide b2; have hs2 := b2.size; clear sp b2)
          | (at_builtin; refine wpList_appG rowV rfl _ _ rfl w.heap.size qm cm us ⟨w2.heap.size, 0, none⟩ 1 [v'] k 1 (k + 1) (unhide HUS) rfl rfl rfl rfl (((unhide HO).below (unhide HUY)).below ((below_sub (unhide B2) ((Below.refl _ _).alloc (Nat.le_refl _) _)))) (node_src (box_nw _ _)) hkm hkb (by simp; omega) ?_; intro q3 c3 w3 ho3 hb3 hg3 hor3; have HO3 := hide ho3; have HB3 := hide hb3; have HG3 := hide hg3; have HR3 := hide hor3; have hne : some U.heap.size ≠ (Value.slice qm k cm).ownBlock := (fun e => by have := unhide hL _ e.symm; omega); have B23 := hide (show Below Y.heap.size Y (w2.alloc (.cells #[.int .i64 v'.kind, .string v'.attr, .slice v'.qi v'.ni v'.ci, .slice v'.qw v'.nw v'.cw, .int .i64 v'.lo, .int .i64 v'.hi, .int .i64 v'.op, .slice v'.qk v'.nk v'.ck] 28)) from below_sub (unhide B2) ((Below.refl _ _).alloc (Nat.le_refl _) _)); obtain ⟨n0, n1, n2, n3, n4, n5, n6, n7⟩ := of8' ((hg3.block U.heap.size (by simp; omega) hne).trans (((unhide B23).block _ (by omega)).trans (unhide HM))); have HU3 := hide (show Below w.heap.size w w3 from (below_sub (below_sub (unhide HB) (unhide HUY)) (unhide B23)).trans hb3); clear ho3 hb3 hg3 hor3)
          | (go_at_call 13; refine (h13 _ (unhide HU3)).mono ?_; rintro e w4 ⟨rfl, b4⟩; have B4 := hide b4; clear b4))
        go_roundw
        case rel =>
          have hA := hide (below_sub (unhide B2) ((Below.refl w2.heap.size w2).alloc (Nat.le_refl _) (.cells #[.int .i64 v'.kind, .string v'.attr, .slice v'.qi v'.ni v'.ci, .slice v'.qw v'.nw v'.cw, .int .i64 v'.lo, .int .i64 v'.hi, .int .i64 v'.op, .slice v'.qk v'.nk v'.ck] 28)))
          have SPA := (unhide SP).keep ((Below.refl w2.heap.size w2).alloc (Nat.le_refl _) (.cells #[.int .i64 v'.kind, .string v'.attr, .slice v'.qi v'.ni v'.ci, .slice v'.qw v'.nw v'.cw, .int .i64 v'.lo, .int .i64 v'.hi, .int .i64 v'.op, .slice v'.qk v'.nk v'.ck] 28))
          have F3 : OffP w.heap.size (MineIn w.heap.size kids (us ++ [v'])) (Value.slice q3 (k + 1) c3).ownBlock w3 := (((((unhide HF).below (unhide HUY)).below (unhide B23)).step (unhide HG3) (unhide HR3)).and ((OffP.spin SPA (by omega) (fun b e => by have := unhide hL _ e; omega)).step (unhide HG3) (unhide HR3))).imp (fun W h => h.1.snoc (unhide HUS) (unhide HXX) (h.2.mono (by omega)))
          have hl3 : (us ++ [v']).length = k + 1 := by rw [List.length_append, unhide HUS]; rfl
          first
            | exact ⟨k + 1, q3, c3, us ++ [v'], by omega, by go_num, by rw [unhide HSN]; rfl, rfl, hl3, (unhide HO3).below (unhide B4), F3.below (unhide B4), below_sub (unhide HU3) (unhide B4)⟩
            | exact ⟨k + 1, q3, c3, us ++ [v'], by omega, by go_num, by rw [unhide HSN]; rfl, rfl, hl3, unhide HO3, F3, unhide HU3⟩
        case measure => simp [intOf]; omega
    · have hkl : k = kids.length := by omega
      subst hkl
      rw [List.take_of_length_le (Nat.le_refl _)]
      have ki1 : ¬ (kids.length : Int) < (kids.length : Int) := by omega
      have ND := hide (hoff.now.nds hown hus)
      have MI := hide hoff.now
      have HO := hide hown
      have HB := hide hbel
      have hA := and_any qm cm kids U (unhide ND) (by omega)
      have hOr := fun (W : World) (hW : Below U.heap.size U W) => or_any qm cm kids W ((unhide ND).below hW) (by omega)
      clear hown hoff hbel hlt hkk
      go_wp2_with (first
        | (go_at_call 32; refine hA.mono ?_; rintro e w2 ⟨⟨va, rfl, na⟩, b2⟩; simp only [Nv.val]; have NA := hide na.toIn; have B2 := hide b2; clear na b2)
        | (go_at_call 33; refine (hOr _ (unhide B2)).mono ?_; rintro e w3 ⟨⟨vb, rfl, nb⟩, b3⟩; simp only [Nv.val]; have NB3 := hide nb.toIn; have NA3 := hide ((unhide NA).keep b3); have B3 := hide (below_sub (unhide B2) b3); clear nb b3))
      clear hA hOr
      go_loopw [38] (fun i wr => ∃ k : Nat, k ≤ kids.length ∧ i = .int .i64 k ∧ wr.heap[w3.heap.size]? = some (.cells #[.int .i64 va.kind, .string va.attr, .slice va.qi va.ni va.ci, .slice va.qw va.nw va.cw, .int .i64 va.lo, .int .i64 va.hi, .int .i64 va.op, .slice va.qk va.nk va.ck] 28 (0, 0)) ∧ wr.heap[w3.heap.size + 1]? = some (.cells #[.int .i64 vb.kind, .string vb.attr, .slice vb.qi vb.ni vb.ci, .slice vb.qw vb.nw vb.cw, .int .i64 vb.lo, .int .i64 vb.hi, .int .i64 vb.op, .slice vb.qk vb.nk vb.ck] 28 (0, 0)) ∧ Below w3.heap.size w3 wr) (fun i _ => kids.length - (intOf i).toNat)
      case atStart =>
        obtain ⟨ya, yb, hbY, hYs⟩ := two (rfl : (w3.alloc (.cells #[.int .i64 va.kind, .string va.attr, .slice va.qi va.ni va.ci, .slice va.qw va.nw va.cw, .int .i64 va.lo, .int .i64 va.hi, .int .i64 va.op, .slice va.qk va.nk va.ck] 28)).alloc (.cells #[.int .i64 vb.kind, .string vb.attr, .slice vb.qi vb.ni vb.ci, .slice vb.qw vb.nw vb.cw, .int .i64 vb.lo, .int .i64 vb.hi, .int .i64 vb.op, .slice vb.qk vb.nk vb.ck] 28) = _)
        exact ⟨0, by omega, rfl, ya, yb, hbY⟩
      case round =>
        obtain ⟨k, hkk, rfl, hya, hyb, hbw⟩ := hrel
        obtain ⟨V, rfl⟩ : ∃ V, V = wr := ⟨_, rfl⟩
        have HYA := hide hya
        have HYB := hide hyb
        have BU := hide (below_sub (unhide B3) hbw)
        have BW := hide (below_sub (unhide HB) (unhide BU))
        have hz3 := heap_lt hyb
        have BV := hide hbw
        clear hya hyb hbw
        by_cases hlt : k < kids.length
        · obtain ⟨x, hx, hxd⟩ := get_at hlt
          clear hxd
          obtain ⟨b, off, v, hq, hin, g0, g1, g2, g3, g4, g5, g6, g7⟩ := (unhide HK).on2 hx (unhide BW)
          subst hq
          obtain ⟨u, hu, hud⟩ := get_at (l := us) (k := k) (by omega)
          clear hud
          have hxw := wtL_mem (List.mem_of_getElem? hx)
          have hsp := unhide MI k u x hu hx
          obtain ⟨gm, rfl⟩ : ∃ gm, qm = some ⟨gm, 0, none⟩ := by
            rcases (unhide HO).cases with ⟨_, h0, _⟩ | ⟨gm, h0, _⟩
            · subst h0; simp at hu
            · exact ⟨gm, h0⟩
          obtain ⟨y0, y1, y2, y3, y4, y5, y6, y7⟩ := ((unhide HO).below (unhide BU)).cells hu
          have ki0 : (0 : Int) ≤ (k : Int) := by omega
          have ki2 : (k : Int) < (kids.length : Int) := by omega
          obtain ⟨Y, HY⟩ : ∃ Y, V.alloc (.cells #[.int .i64 v.kind, .string v.attr, .slice v.qi v.ni v.ci, .slice v.qw v.nw v.cw, .int .i64 v.lo, .int .i64 v.hi, .int .i64 v.op, .slice v.qk v.nk v.ck] 28) = Y := ⟨_, rfl⟩
          have hM : Y.heap[V.heap.size]? = some (.cells #[.int .i64 v.kind, .string v.attr, .slice v.qi v.ni v.ci, .slice v.qw v.nw v.cw, .int .i64 v.lo, .int .i64 v.hi, .int .i64 v.op, .slice v.qk v.nk v.ck] 28 (0, 0)) := by rw [← HY]; exact box_nw _ _
          have hVY : Below V.heap.size V Y := by rw [← HY]; exact (Below.refl _ _).alloc (Nat.le_refl _) _
          have hgm : gm < V.heap.size := ((unhide HO).below (unhide BU)).free.1
          have z0 := (hVY.cell (p := ⟨gm, k * 8, none⟩) hgm).trans y0
          have z1 := (hVY.cell (p := ⟨gm, k * 8 + 1, none⟩) hgm).trans y1
          have z2 := (hVY.cell (p := ⟨gm, k * 8 + 2, none⟩) hgm).trans y2
          have z3 := (hVY.cell (p := ⟨gm, k * 8 + 3, none⟩) hgm).trans y3
          have z4 := (hVY.cell (p := ⟨gm, k * 8 + 4, none⟩) hgm).trans y4
          have z5 := (hVY.cell (p := ⟨gm, k * 8 + 5, none⟩) hgm).trans y5
          have z6 := (hVY.cell (p := ⟨gm, k * 8 + 6, none⟩) hgm).trans y6
          have z7 := (hVY.cell (p := ⟨gm, k * 8 + 7, none⟩) hgm).trans y7
          have hNot := not_any x u Y ((hsp.toIn.keep (unhide BU)).keep hVY) (by omega)
          simp only [Nv.val] at hNot
          have HM := hide hM
          have HVY := hide hVY
          have hYs := heap_lt hM
          have HIN := hide (hin.keep (below_sub (unhide BW) hVY))
          have HSP := hide ((hsp.keep (unhide BU)).keep hVY)
          clear hM hVY hin hsp hu hx y0 y1 y2 y3 y4 y5 y6 y7
          go_wp2_with (go_at_call 34; refine hNot.mono ?_; rintro e w5 ⟨⟨vn, rfl, nn⟩, b5⟩; simp only [Nv.val]; have NN := hide nn.toIn; have B5 := hide b5; clear nn b5)
          obtain ⟨Z, HZ⟩ : ∃ Z, w5.alloc (.cells #[.int .i64 vn.kind, .string vn.attr, .slice vn.qi vn.ni vn.ci, .slice vn.qw vn.nw vn.cw, .int .i64 vn.lo, .int .i64 vn.hi, .int .i64 vn.op, .slice vn.qk vn.nk vn.ck] 28) = Z := ⟨_, rfl⟩
          rw [HZ]
          have hbZ : Below w5.heap.size w5 Z := by rw [← HZ]; exact (Below.refl _ _).alloc (Nat.le_refl _) _
          have hZn : Z.heap[w5.heap.size]? = some (.cells #[.int .i64 vn.kind, .string vn.attr, .slice vn.qi vn.ni vn.ci, .slice vn.qw vn.nw vn.cw, .int .i64 vn.lo, .int .i64 vn.hi, .int .i64 vn.op, .slice vn.qk vn.nk vn.ck] 28 (0, 0)) := by rw [← HZ]; exact box_nw _ _
          have BZ := hide (below_sub (unhide B5) hbZ)
          have hZx := ((unhide BZ).block _ hYs).trans (unhide HM)
          obtain ⟨p0, p1, p2, p3, p4, p5, p6, p7⟩ := of8' hZn
          obtain ⟨r0, r1, r2, r3, r4, r5, r6, r7⟩ := of8' hZx
          have ln := heap_lt hZn
          have lx := heap_lt hZx
          have HNZ := hide ((unhide NN).keep hbZ)
          have HXZ := hide ((unhide HIN).keep (unhide BZ))
          have hS21 : ∀ W : World, Below Z.heap.size Z W → W.heap[Z.heap.size]? = some (.cells #[.int .i64 v.kind, .string v.attr, .slice v.qi v.ni v.ci, .slice v.qw v.nw v.cw, .int .i64 v.lo, .int .i64 v.hi, .int .i64 v.op, .slice v.qk v.nk v.ck] 28 (0, 0)) → Calls Tryd.prog 21 #[vn.val, Nv.val ⟨0, ⟨#[]⟩, none, 0, 0, none, 0, 0, 0, 0, 2, some ⟨Z.heap.size, 0, none⟩, 1, 1⟩] W fun e w' => e = .returned (.bool true) ∧ Below W.heap.size W w' := fun W hW hc => sameTT _ _ W ((unhide HNZ).keep hW) (not_in hc ((unhide HXZ).keep hW)) (by rw [wt_not]; omega)
          obtain ⟨C, hC⟩ : ∃ C, code (chkN x) = C := ⟨_, rfl⟩
          have h13 : ∀ (t : Nv) (W : World), (NdIn W t x ∨ NdIn W t (notT x)) → Calls Tryd.prog 13 #[t.val] W fun e w' => e = .returned (.int .i64 C) ∧ Below W.heap.size W w' := fun t W h => by
            rcases h with h | h
            · have := checkT_any x t W h (by omega); rwa [hC] at this
            · have := checkT_any (notT x) t W h (by rw [wt_not]; omega); rwa [chk_not, hC] at this
          simp only [Nv.val] at hS21 h13
          have nC : (C != C) = false := by simp
          have hK20 := fun (W : World) (hW : Below Z.heap.size Z W) => kept_any x w.heap.size u v W ((unhide HSP).keep (below_sub (unhide BZ) hW)) ((unhide HXZ).keep hW) (by omega)
          simp only [Nv.val] at hK20
          have hgz : gm < Z.heap.size := by have := (unhide BZ).size; omega
          have s0 := ((unhide BZ).cell (p := ⟨gm, k * 8, none⟩) (by simp only; omega)).trans z0
          have s1 := ((unhide BZ).cell (p := ⟨gm, k * 8 + 1, none⟩) (by simp only; omega)).trans z1
          have s2 := ((unhide BZ).cell (p := ⟨gm, k * 8 + 2, none⟩) (by simp only; omega)).trans z2
          have s3 := ((unhide BZ).cell (p := ⟨gm, k * 8 + 3, none⟩) (by simp only; omega)).trans z3
          have s4 := ((unhide BZ).cell (p := ⟨gm, k * 8 + 4, none⟩) (by simp only; omega)).trans z4
          have s5 := ((unhide BZ).cell (p := ⟨gm, k * 8 + 5, none⟩) (by simp only; omega)).trans z5
          have s6 := ((unhide BZ).cell (p := ⟨gm, k * 8 + 6, none⟩) (by simp only; omega)).trans z6
          have s7 := ((unhide BZ).cell (p := ⟨gm, k * 8 + 7, none⟩) (by simp only; omega)).trans z7
          have HS := hide (show _ ∧ _ ∧ _ ∧ _ ∧ _ ∧ _ ∧ _ ∧ _ from ⟨s0, s1, s2, s3, s4, s5, s6, s7⟩)
          clear z0 z1 z2 z3 z4 z5 z6 z7 s0 s1 s2 s3 s4 s5 s6 s7 hZn hZx hbZ HZ hC HM
          go_region_held3 (fun w' => w'.cell? ⟨w5.heap.size, 0, none⟩ = some (.int .i64 vn.kind) ∧ w'.cell? ⟨w5.heap.size, 1, none⟩ = some (.string vn.attr) ∧ w'.cell? ⟨w5.heap.size, 2, none⟩ = some (.slice vn.qi vn.ni vn.ci) ∧ w'.cell? ⟨w5.heap.size, 3, none⟩ = some (.slice vn.qw vn.nw vn.cw) ∧ w'.cell? ⟨w5.heap.size, 4, none⟩ = some (.int .i64 vn.lo) ∧ w'.cell? ⟨w5.heap.size, 5, none⟩ = some (.int .i64 vn.hi) ∧ w'.cell? ⟨w5.heap.size, 6, none⟩ = some (.int .i64 vn.op) ∧ w'.cell? ⟨w5.heap.size, 7, none⟩ = some (.slice vn.qk vn.nk vn.ck) ∧ w'.cell? ⟨V.heap.size, 0, none⟩ = some (.int .i64 v.kind) ∧ w'.cell? ⟨V.heap.size, 1, none⟩ = some (.string v.attr) ∧ w'.cell? ⟨V.heap.size, 2, none⟩ = some (.slice v.qi v.ni v.ci) ∧ w'.cell? ⟨V.heap.size, 3, none⟩ = some (.slice v.qw v.nw v.cw) ∧ w'.cell? ⟨V.heap.size, 4, none⟩ = some (.int .i64 v.lo) ∧ w'.cell? ⟨V.heap.size, 5, none⟩ = some (.int .i64 v.hi) ∧ w'.cell? ⟨V.heap.size, 6, none⟩ = some (.int .i64 v.op) ∧ w'.cell? ⟨V.heap.size, 7, none⟩ = some (.slice v.qk v.nk v.ck))
            (first | go_keep | exact ⟨(R2.cell (by exact ln)).trans p0, (R2.cell (by exact ln)).trans p1, (R2.cell (by exact ln)).trans p2, (R2.cell (by exact ln)).trans p3, (R2.cell (by exact ln)).trans p4, (R2.cell (by exact ln)).trans p5, (R2.cell (by exact ln)).trans p6, (R2.cell (by exact ln)).trans p7, (R2.cell (by exact lx)).trans r0, (R2.cell (by exact lx)).trans r1, (R2.cell (by exact lx)).trans r2, (R2.cell (by exact lx)).trans r3, (R2.cell (by exact lx)).trans r4, (R2.cell (by exact lx)).trans r5, (R2.cell (by exact lx)).trans r6, (R2.cell (by exact lx)).trans r7⟩)
            (first
              | (go_at_call 13; refine (h13 _ _ (by first | exact Or.inl ((unhide HXZ).keep R2) | exact Or.inr ((unhide HNZ).keep R2))).mono ?_; rintro e w6 ⟨rfl, b6⟩; have R2 : Below Z.heap.size Z w6 := (below_sub R2 b6))
              | (go_at_call 21; refine (hS21 _ (by exact (Below.refl _ _).drew.alloc (Nat.le_refl _) _) (by exact box_nw _ _)).mono ?_; rintro e w6 ⟨rfl, b6⟩; have R2 : Below Z.heap.size Z w6 := (below_sub ((Below.refl _ _).drew.alloc (Nat.le_refl _) _) b6)))
          all_goals
            obtain ⟨t0, t1, t2, t3, t4, t5, t6, t7⟩ := unhide HS
            have q20 := fun (n : Nat) (os : Array Obj) => hK20 (grow (redrawn w6 n) os) (below_sub R2 (below_regrown w6 n os))
            have BR := hide R2
            have d0 : ∀ n os, (grow (redrawn w6 n) os).cell? ⟨gm, k * 8, none⟩ = some (.int .i64 u.kind) := cell_regrown ((R2.cell (p := ⟨gm, k * 8, none⟩) (by exact hgz)).trans t0)
            have d1 : ∀ n os, (grow (redrawn w6 n) os).cell? ⟨gm, k * 8 + 1, none⟩ = some (.string u.attr) := cell_regrown ((R2.cell (p := ⟨gm, k * 8 + 1, none⟩) (by exact hgz)).trans t1)
            have d2 : ∀ n os, (grow (redrawn w6 n) os).cell? ⟨gm, k * 8 + 2, none⟩ = some (.slice u.qi u.ni u.ci) := cell_regrown ((R2.cell (p := ⟨gm, k * 8 + 2, none⟩) (by exact hgz)).trans t2)
            have d3 : ∀ n os, (grow (redrawn w6 n) os).cell? ⟨gm, k * 8 + 3, none⟩ = some (.slice u.qw u.nw u.cw) := cell_regrown ((R2.cell (p := ⟨gm, k * 8 + 3, none⟩) (by exact hgz)).trans t3)
            have d4 : ∀ n os, (grow (redrawn w6 n) os).cell? ⟨gm, k * 8 + 4, none⟩ = some (.int .i64 u.lo) := cell_regrown ((R2.cell (p := ⟨gm, k * 8 + 4, none⟩) (by exact hgz)).trans t4)
            have d5 : ∀ n os, (grow (redrawn w6 n) os).cell? ⟨gm, k * 8 + 5, none⟩ = some (.int .i64 u.hi) := cell_regrown ((R2.cell (p := ⟨gm, k * 8 + 5, none⟩) (by exact hgz)).trans t5)
            have d6 : ∀ n os, (grow (redrawn w6 n) os).cell? ⟨gm, k * 8 + 6, none⟩ = some (.int .i64 u.op) := cell_regrown ((R2.cell (p := ⟨gm, k * 8 + 6, none⟩) (by exact hgz)).trans t6)
            have d7 : ∀ n os, (grow (redrawn w6 n) os).cell? ⟨gm, k * 8 + 7, none⟩ = some (.slice u.qk u.nk u.ck) := cell_regrown ((R2.cell (p := ⟨gm, k * 8 + 7, none⟩) (by exact hgz)).trans t7)
            have e0 : ∀ n os, (grow (redrawn w6 n) os).cell? ⟨V.heap.size, 0, none⟩ = some (.int .i64 v.kind) := cell_regrown ((R2.cell (p := ⟨V.heap.size, 0, none⟩) (by exact lx)).trans r0)
            have e1 : ∀ n os, (grow (redrawn w6 n) os).cell? ⟨V.heap.size, 1, none⟩ = some (.string v.attr) := cell_regrown ((R2.cell (p := ⟨V.heap.size, 1, none⟩) (by exact lx)).trans r1)
            have e2 : ∀ n os, (grow (redrawn w6 n) os).cell? ⟨V.heap.size, 2, none⟩ = some (.slice v.qi v.ni v.ci) := cell_regrown ((R2.cell (p := ⟨V.heap.size, 2, none⟩) (by exact lx)).trans r2)
            have e3 : ∀ n os, (grow (redrawn w6 n) os).cell? ⟨V.heap.size, 3, none⟩ = some (.slice v.qw v.nw v.cw) := cell_regrown ((R2.cell (p := ⟨V.heap.size, 3, none⟩) (by exact lx)).trans r3)
            have e4 : ∀ n os, (grow (redrawn w6 n) os).cell? ⟨V.heap.size, 4, none⟩ = some (.int .i64 v.lo) := cell_regrown ((R2.cell (p := ⟨V.heap.size, 4, none⟩) (by exact lx)).trans r4)
            have e5 : ∀ n os, (grow (redrawn w6 n) os).cell? ⟨V.heap.size, 5, none⟩ = some (.int .i64 v.hi) := cell_regrown ((R2.cell (p := ⟨V.heap.size, 5, none⟩) (by exact lx)).trans r5)
            have e6 : ∀ n os, (grow (redrawn w6 n) os).cell? ⟨V.heap.size, 6, none⟩ = some (.int .i64 v.op) := cell_regrown ((R2.cell (p := ⟨V.heap.size, 6, none⟩) (by exact lx)).trans r6)
            have e7 : ∀ n os, (grow (redrawn w6 n) os).cell? ⟨V.heap.size, 7, none⟩ = some (.slice v.qk v.nk v.ck) := cell_regrown ((R2.cell (p := ⟨V.heap.size, 7, none⟩) (by exact lx)).trans r7)
            clear t0 t1 t2 t3 t4 t5 t6 t7 p0 p1 p2 p3 p4 p5 p6 p7 r0 r1 r2 r3 r4 r5 r6 r7 hS21 h13 hK20
            go_wp2
            refine wp_region_quiet_below (by assumption) (by kernel_rfl) ?_
            repeat (go_big_quiet_step (first | (go_at_fn 20; refine Calls.regrown_of (q20 _ _))))
            refine wpQuiet_nil ?_
            intro _ hw'
            obtain ⟨⟨dq, osq⟩, hw''⟩ := hw'
            subst hw''
            clear q20 d0 d1 d2 d3 d4 d5 d6 d7 e0 e1 e2 e3 e4 e5 e6 e7
            go_wp2
            go_roundw
            case rel =>
              have bF := below_sub (below_sub (unhide HVY) (unhide BZ)) (below_sub (unhide BR) (below_regrown w6 dq osq))
              exact ⟨k + 1, by omega, by go_num, (bF.block _ (by omega)).trans (unhide HYA), (bF.block _ hz3).trans (unhide HYB), below_sub (unhide BV) bF⟩
            case measure => simp [intOf]; omega
        · have hkl : k = kids.length := by omega
          subst hkl
          have ki2 : ¬ (kids.length : Int) < (kids.length : Int) := by omega
          have lb := hz3
          have la : w3.heap.size < V.heap.size := by omega
          obtain ⟨a_0, a_1, a_2, a_3, a_4, a_5, a_6, a_7⟩ := of8' (unhide HYA)
          have h21a := fun (t : Nv) (W : World) (hW : Below V.heap.size V W) (ht : NdIn W t (joinT 3 kids)) => sameTT va t W ((unhide NA3).keep (below_sub (unhide BV) hW)) ht (Nat.le_trans (wt_join 3 kids) (by omega))
          have h21b := fun (t : Nv) (W : World) (hW : Below V.heap.size V W) (ht : NdIn W t (joinT 4 kids)) => sameTT vb t W ((unhide NB3).keep (below_sub (unhide BV) hW)) ht (Nat.le_trans (wt_join 4 kids) (by omega))
          simp only [Nv.val] at h21a h21b
          by_cases hl0 : kids.length = 0
          · obtain rfl : kids = [] := List.length_eq_zero_iff.1 hl0
            clear hl0 hlen hwt hfx hkk hlt
            simp only [List.length_nil, Int.natCast_zero] at *
            go_wp2_with (first
              | (go_at_call 21; refine (h21b ⟨0, ⟨#[]⟩, none, 0, 0, none, 0, 0, 0, 0, 0, none, 0, 0⟩ _ (unhide RA) (zero_in _)).mono ?_; rintro e w8 ⟨rfl, b8⟩; have RB := hide (below_sub (unhide RA) b8); clear b8)
              | (go_at_call 21; refine (h21a ⟨0, ⟨#[]⟩, none, 0, 0, none, 0, 0, 0, 0, 0, none, 0, 0⟩ _ (Below.refl _ _) (zero_in _)).mono ?_; rintro e w7 ⟨rfl, b7⟩; obtain ⟨b_0, b_1, b_2, b_3, b_4, b_5, b_6, b_7⟩ := of8' ((b7.block _ lb).trans (unhide HYB)); have RA := hide b7; clear b7))
            go_ret
            exact ⟨ret_bool (by simp), below_sub (unhide BW) (unhide RB)⟩
          · by_cases hl1 : kids.length = 1
            · obtain ⟨x, rfl⟩ : ∃ x, kids = [x] := List.length_eq_one_iff.1 hl1
              clear hl0 hl1 hlen hfx hkk hlt a0 ki1 ki2
              obtain ⟨b, off, v, hq, hin, g0, g1, g2, g3, g4, g5, g6, g7⟩ := (unhide HK).on2 (j := 0) (x := x) rfl (unhide BW)
              subst hq
              simp only [Nat.zero_mul, Nat.add_zero] at g0 g1 g2 g3 g4 g5 g6 g7
              simp only [List.length_cons, List.length_nil, Nat.zero_add, Int.natCast_one] at *
              obtain ⟨b_0, b_1, b_2, b_3, b_4, b_5, b_6, b_7⟩ := of8' (unhide HYB)
              have NAX : Hid (NdIn V va x) := hide ((unhide NA3).keep (unhide BV))
              have NBX : Hid (NdIn V vb x) := hide ((unhide NB3).keep (unhide BV))
              have q21 := fun (t : Nv) (ht : NdIn V t x) (n : Nat) (os : Array Obj) => sameTT t v (grow (redrawn V n) os) (ht.keep (below_regrown V n os)) (hin.keep (below_sub (unhide BW) (below_regrown V n os))) (by have := wtL_cons x []; omega)
              simp only [Nv.val] at q21
              have dg0 : ∀ n os, (grow (redrawn V n) os).cell? ⟨b, off, none⟩ = some (.int .i64 v.kind) := cell_regrown (g0)
              have dg1 : ∀ n os, (grow (redrawn V n) os).cell? ⟨b, off + 1, none⟩ = some (.string v.attr) := cell_regrown (g1)
              have dg2 : ∀ n os, (grow (redrawn V n) os).cell? ⟨b, off + 2, none⟩ = some (.slice v.qi v.ni v.ci) := cell_regrown (g2)
              have dg3 : ∀ n os, (grow (redrawn V n) os).cell? ⟨b, off + 3, none⟩ = some (.slice v.qw v.nw v.cw) := cell_regrown (g3)
              have dg4 : ∀ n os, (grow (redrawn V n) os).cell? ⟨b, off + 4, none⟩ = some (.int .i64 v.lo) := cell_regrown (g4)
              have dg5 : ∀ n os, (grow (redrawn V n) os).cell? ⟨b, off + 5, none⟩ = some (.int .i64 v.hi) := cell_regrown (g5)
              have dg6 : ∀ n os, (grow (redrawn V n) os).cell? ⟨b, off + 6, none⟩ = some (.int .i64 v.op) := cell_regrown (g6)
              have dg7 : ∀ n os, (grow (redrawn V n) os).cell? ⟨b, off + 7, none⟩ = some (.slice v.qk v.nk v.ck) := cell_regrown (g7)
              have da0 : ∀ n os, (grow (redrawn V n) os).cell? ⟨w3.heap.size, 0, none⟩ = some (.int .i64 va.kind) := cell_regrown (a_0)
              have da1 : ∀ n os, (grow (redrawn V n) os).cell? ⟨w3.heap.size, 1, none⟩ = some (.string va.attr) := cell_regrown (a_1)
              have da2 : ∀ n os, (grow (redrawn V n) os).cell? ⟨w3.heap.size, 2, none⟩ = some (.slice va.qi va.ni va.ci) := cell_regrown (a_2)
              have da3 : ∀ n os, (grow (redrawn V n) os).cell? ⟨w3.heap.size, 3, none⟩ = some (.slice va.qw va.nw va.cw) := cell_regrown (a_3)
              have da4 : ∀ n os, (grow (redrawn V n) os).cell? ⟨w3.heap.size, 4, none⟩ = some (.int .i64 va.lo) := cell_regrown (a_4)
              have da5 : ∀ n os, (grow (redrawn V n) os).cell? ⟨w3.heap.size, 5, none⟩ = some (.int .i64 va.hi) := cell_regrown (a_5)
              have da6 : ∀ n os, (grow (redrawn V n) os).cell? ⟨w3.heap.size, 6, none⟩ = some (.int .i64 va.op) := cell_regrown (a_6)
              have da7 : ∀ n os, (grow (redrawn V n) os).cell? ⟨w3.heap.size, 7, none⟩ = some (.slice va.qk va.nk va.ck) := cell_regrown (a_7)
              have db0 : ∀ n os, (grow (redrawn V n) os).cell? ⟨w3.heap.size + 1, 0, none⟩ = some (.int .i64 vb.kind) := cell_regrown (b_0)
              have db1 : ∀ n os, (grow (redrawn V n) os).cell? ⟨w3.heap.size + 1, 1, none⟩ = some (.string vb.attr) := cell_regrown (b_1)
              have db2 : ∀ n os, (grow (redrawn V n) os).cell? ⟨w3.heap.size + 1, 2, none⟩ = some (.slice vb.qi vb.ni vb.ci) := cell_regrown (b_2)
              have db3 : ∀ n os, (grow (redrawn V n) os).cell? ⟨w3.heap.size + 1, 3, none⟩ = some (.slice vb.qw vb.nw vb.cw) := cell_regrown (b_3)
              have db4 : ∀ n os, (grow (redrawn V n) os).cell? ⟨w3.heap.size + 1, 4, none⟩ = some (.int .i64 vb.lo) := cell_regrown (b_4)
              have db5 : ∀ n os, (grow (redrawn V n) os).cell? ⟨w3.heap.size + 1, 5, none⟩ = some (.int .i64 vb.hi) := cell_regrown (b_5)
              have db6 : ∀ n os, (grow (redrawn V n) os).cell? ⟨w3.heap.size + 1, 6, none⟩ = some (.int .i64 vb.op) := cell_regrown (b_6)
              have db7 : ∀ n os, (grow (redrawn V n) os).cell? ⟨w3.heap.size + 1, 7, none⟩ = some (.slice vb.qk vb.nk vb.ck) := cell_regrown (b_7)
              clear g0 g1 g2 g3 g4 g5 g6 g7 a_0 a_1 a_2 a_3 a_4 a_5 a_6 a_7 b_0 b_1 b_2 b_3 b_4 b_5 b_6 b_7 h21a h21b
              go_wp2
              refine wp_region_quiet_below (by assumption) (by kernel_rfl) ?_
              repeat (go_big_quiet_step (first | (go_at_fn 21; refine Calls.regrown_of (q21 _ (by first | exact unhide NAX | exact unhide NBX) _ _))))
              refine wpQuiet_nil ?_
              intro _ hw'
              obtain ⟨⟨dq, osq⟩, hw''⟩ := hw'
              subst hw''
              go_wp2
              go_ret
              exact ⟨ret_bool (by simp), below_sub (unhide BW) (below_regrown V dq osq)⟩
            · have hl2 : 2 ≤ kids.length := by omega
              have n0 : ¬ (kids.length : Int) = 0 := by omega
              have n1 : ¬ (kids.length : Int) = 1 := by omega
              obtain ⟨bc, hbc⟩ : ∃ bc, chkL kids = bc := ⟨_, rfl⟩
              obtain ⟨C, hC⟩ : ∃ C, code bc = C := ⟨_, rfl⟩
              have h14 := fun (W : World) => form_any bc W
              have hca := fun (W : World) (hW : Below V.heap.size V W) => checkT_any (joinT 3 kids) va W ((unhide NA3).keep (below_sub (unhide BV) hW)) (Nat.le_trans (wt_join 3 kids) (by omega))
              have hcb := fun (W : World) (hW : Below V.heap.size V W) => checkT_any (joinT 4 kids) vb W ((unhide NB3).keep (below_sub (unhide BV) hW)) (Nat.le_trans (wt_join 4 kids) (by omega))
              rw [chk_join (Or.inl rfl) hl2, hbc, hC] at hca
              rw [chk_join (Or.inr rfl) hl2, hbc, hC] at hcb
              rw [hC] at h14
              rw [hbc]
              simp only [Nv.val] at hca hcb
              have JI := fun (op : Int) (W : World) (hW : Below w.heap.size w W) => join_in op ((unhide HK).below hW) hl2
              have eC : (C == C) = true := by simp
              clear hl0 hl1 hlen hfx hkk hlt hbc hC
              go_wp2_with (first
                | (go_at_call 14; refine (h14 _).mono ?_; rintro e w9 ⟨rfl, hw9⟩; subst hw9)
                | (go_at_call 13; refine (hcb _ (unhide RC)).mono ?_; rintro e w10 ⟨rfl, b10⟩; have RD := hide (below_sub (unhide RC) b10); clear b10)
                | (go_at_call 13; refine (hca _ (unhide RB)).mono ?_; rintro e w9 ⟨rfl, b9⟩; have RC := hide (below_sub (unhide RB) b9); obtain ⟨b_0, b_1, b_2, b_3, b_4, b_5, b_6, b_7⟩ := of8' (((unhide RC).block _ lb).trans (unhide HYB)); clear b9)
                | (go_at_call 21; refine (h21b ⟨0, ⟨#[]⟩, none, 0, 0, none, 0, 0, 0, 0, 4, q, kids.length, c⟩ _ (unhide RA) (JI 4 _ (below_sub (unhide BW) (unhide RA)))).mono ?_; rintro e w8 ⟨rfl, b8⟩; have RB := hide (below_sub (unhide RA) b8); obtain ⟨a_0, a_1, a_2, a_3, a_4, a_5, a_6, a_7⟩ := of8' (((unhide RB).block _ la).trans (unhide HYA)); clear b8)
                | (go_at_call 21; refine (h21a ⟨0, ⟨#[]⟩, none, 0, 0, none, 0, 0, 0, 0, 3, q, kids.length, c⟩ _ (Below.refl _ _) (JI 3 _ (unhide BW))).mono ?_; rintro e w7 ⟨rfl, b7⟩; obtain ⟨b_0, b_1, b_2, b_3, b_4, b_5, b_6, b_7⟩ := of8' ((b7.block _ lb).trans (unhide HYB)); have RA := hide b7; clear b7))
              go_ret
              exact ⟨ret_bool (by simp), below_sub (unhide BW) (unhide RD)⟩

end Go.Proofs.YtmdkdkcjgjknoaaDoor
