/- The law DnfLiterals returns true, whatever tree of bounded weight it is given. -/
import Derived.Test.YtppkjlmdfcifgaaDnfFixed
import Derived.Test.YtppkjlmdfcifgaaDnfLitPlain
import Derived.Test.YtppkjlmdfcifgaaDnfSame
namespace Go.Proofs.Ytppkjlmdfcifgaa
open Go.RowKit Go.Sort

theorem Try.info4 : (Try.prog.info? 4).map (fun i => (i.zero, i.size, i.bytes)) = some (some (.bool false), 1, 1) := by kernel_rfl
theorem makeB (n : Nat) (h : n ≤ 140737488355328) : ∃ cur : Array Value, cur.size = n * 1 ∧ cur.toList = List.replicate n (Value.bool false) ∧ ∀ W : World, (Instr.makeSlice 79 (.int .i64 (n : Int)) (.int .i64 (n : Int))).run Try.prog W = .ok (.slice (some ⟨W.heap.size, 0, none⟩) n n) (W.alloc (.cells cur 4)) := by
  obtain ⟨i0, hi, hz0, hz1, hz2⟩ := info_parts Try.info4
  refine ⟨madeCells (Value.cells (.bool false)) (n * i0.size), by rw [size_madeCells, hz1], ?_, fun W => ?_⟩
  · have := toList_madeCells_one (.bool false) (n * i0.size)
    rw [hz1, Nat.mul_one] at this
    rw [hz1, Nat.mul_one]
    exact this
  · have := run_make (P := Try.prog) W 79 4 i0 _ Try.underlying79 hi hz0 .i64 .i64 (n : Int) (n : Int) (by omega) (by omega) (by rw [hz2]; omega) (by omega)
    simpa only [Int.toNat_natCast] using this
theorem exp_noneL {t : Nd} {m : Int} (h : expE t m ≠ 0) : expC t m = [] := by unfold expC; rw [if_neg h]
theorem gtrans {w w1 w2 : World} {g : Nat} (h : w.grownBy w1 (some g)) (h2 : w1.grownBy w2 (some g)) : w.grownBy w2 (some g) :=
  ⟨h2.os.trans h.os, h2.tape.trans h.tape, h2.output.trans h.output, Nat.le_trans h.size h2.size, fun k hk hne => (h2.block k (Nat.lt_of_lt_of_le hk h.size) hne).trans (h.block k hk hne)⟩
theorem gbelow {w w1 : World} {r : Option Nat} (hb : Below w.heap.size w w1) : w.grownBy w1 r := ⟨hb.os, hb.tape, hb.output, hb.size, fun j hj _ => hb.block j hj⟩
set_option maxRecDepth 100000 in
set_option maxHeartbeats 4000000 in
theorem lits_bad (t : Nd) (v : Nv) (w : World) (hin : NdIn w v t) (hwt : wtN t ≤ 100000000) (hne : expE t 64 ≠ 0) :
    Calls Try.prog 15 #[v.val] w fun e w' => e = .returned (.bool true) ∧ Below w.heap.size w w' := by
  obtain ⟨X, HX⟩ : ∃ X, w.alloc (.cells #[.int .i64 v.kind, .string v.attr, .slice v.qi v.ni v.ci, .slice v.qw v.nw v.cw, .int .i64 v.lo, .int .i64 v.hi, .int .i64 v.op, .slice v.qk v.nk v.ck] 31) = X := ⟨_, rfl⟩
  have bX : Below w.heap.size w X := by rw [← HX]; exact (Below.refl _ _).alloc (Nat.le_refl _) _
  have x8 : X.heap[w.heap.size]? = some (.cells #[.int .i64 v.kind, .string v.attr, .slice v.qi v.ni v.ci, .slice v.qw v.nw v.cw, .int .i64 v.lo, .int .i64 v.hi, .int .i64 v.op, .slice v.qk v.nk v.ck] 31 (0, 0)) := by rw [← HX]; exact box_nw _ _
  obtain ⟨c0, c1, c2, c3, c4, c5, c6, c7⟩ := of8' x8
  have hlt8 := heap_lt x8
  have X8 := hide x8
  have BX := hide bX
  have HIN := hide (hin.keep bX)
  have hfx := fixed8_any X
  have hE := fun (W : World) (hW : Below X.heap.size X W) => expand_any t 64 v W ((unhide HIN).keep hW) (by omega)
  have hS := fun (W : World) (hW : Below X.heap.size X W) => size_any t v W ((unhide HIN).keep hW) (Nat.le_trans (size_wt t) (by omega))
  simp only [Nv.val] at hE hS ⊢
  clear hin bX x8
  have hn := exp_noneL hne
  rw [hn] at hE
  obtain ⟨E, hEE⟩ : ∃ E, expE t 64 = E := ⟨_, rfl⟩
  rw [hEE] at hE hne
  have e2 : (E != 0) = true := by simp [hne]
  simp only [List.length_nil] at hE
  clear hn hEE
  go_enter Try.func15, Try.ntmps15
  go_wp2_with (first
    | (go_at_call 55; refine hfx.mono ?_; rintro e w1 ⟨rfl, b1⟩; (obtain ⟨d0, d1, d2, d3, d4, d5, d6, d7⟩ := of8' ((b1.block _ hlt8).trans (unhide X8))); have B1 := hide b1; clear b1)
    | (go_at_call 56; refine (hE _ (unhide B1)).mono ?_; rintro e w2 ⟨⟨q2, c2', rfl, cj⟩, b2⟩; simp only; have CJ2 := hide cj.of; have B2 := hide (below_sub (unhide B1) b2); (obtain ⟨f0, f1, f2, f3, f4, f5, f6, f7⟩ := of8' (((unhide B2).block _ hlt8).trans (unhide X8))); clear cj b2))
  go_ret
  exact ⟨ret_bool (by simp), below_sub (unhide BX) (unhide B2)⟩
set_option maxRecDepth 100000 in
set_option maxHeartbeats 4000000 in
theorem lits_big (t : Nd) (v : Nv) (w : World) (hin : NdIn w v t) (hwt : wtN t ≤ 100000000) (he : expE t 64 = 0) (hbig : 200 < sizeN t) :
    Calls Try.prog 15 #[v.val] w fun e w' => e = .returned (.bool true) ∧ Below w.heap.size w w' := by
  have hszw := size_wt t
  obtain ⟨X, HX⟩ : ∃ X, w.alloc (.cells #[.int .i64 v.kind, .string v.attr, .slice v.qi v.ni v.ci, .slice v.qw v.nw v.cw, .int .i64 v.lo, .int .i64 v.hi, .int .i64 v.op, .slice v.qk v.nk v.ck] 31) = X := ⟨_, rfl⟩
  have bX : Below w.heap.size w X := by rw [← HX]; exact (Below.refl _ _).alloc (Nat.le_refl _) _
  have x8 : X.heap[w.heap.size]? = some (.cells #[.int .i64 v.kind, .string v.attr, .slice v.qi v.ni v.ci, .slice v.qw v.nw v.cw, .int .i64 v.lo, .int .i64 v.hi, .int .i64 v.op, .slice v.qk v.nk v.ck] 31 (0, 0)) := by rw [← HX]; exact box_nw _ _
  obtain ⟨c0, c1, c2, c3, c4, c5, c6, c7⟩ := of8' x8
  have hlt8 := heap_lt x8
  have X8 := hide x8
  have BX := hide bX
  have HIN := hide (hin.keep bX)
  have hfx := fixed8_any X
  have hE := fun (W : World) (hW : Below X.heap.size X W) => expand_any t 64 v W ((unhide HIN).keep hW) (by omega)
  have hS := fun (W : World) (hW : Below X.heap.size X W) => size_any t v W ((unhide HIN).keep hW) (Nat.le_trans (size_wt t) (by omega))
  simp only [Nv.val] at hE hS ⊢
  clear hin bX x8
  rw [he] at hE
  obtain ⟨n, hn⟩ : ∃ n, (expC t 64).length = n := ⟨_, rfl⟩
  rw [hn] at hE
  have e2 : decide ((sizeN t : Int) > 200) = true := by simp; omega
  obtain ⟨s, hs⟩ : ∃ s, sizeN t = s := ⟨_, rfl⟩
  rw [hs] at hS e2 hszw
  clear hn he hbig hs
  go_enter Try.func15, Try.ntmps15
  go_wp2_with (first
    | (go_at_call 55; refine hfx.mono ?_; rintro e w1 ⟨rfl, b1⟩; (obtain ⟨d0, d1, d2, d3, d4, d5, d6, d7⟩ := of8' ((b1.block _ hlt8).trans (unhide X8))); have B1 := hide b1; clear b1)
    | (go_at_call 56; refine (hE _ (unhide B1)).mono ?_; rintro e w2 ⟨⟨q2, c2', rfl, cj⟩, b2⟩; simp only; have CJ2 := hide cj.of; have B2 := hide (below_sub (unhide B1) b2); (obtain ⟨f0, f1, f2, f3, f4, f5, f6, f7⟩ := of8' (((unhide B2).block _ hlt8).trans (unhide X8))); clear cj b2)
    | (go_at_call 66; refine (hS _ (unhide B2)).mono ?_; rintro e w3 ⟨rfl, b3⟩; have B3 := hide (below_sub (unhide B2) b3); have CJ3 := hide ((unhide CJ2).below b3); (obtain ⟨h0, h1, h2, h3, h4, h5, h6, h7⟩ := of8' (((unhide B3).block _ hlt8).trans (unhide X8))); clear b3))
  go_ret
  exact ⟨rfl, below_sub (unhide BX) (unhide B3)⟩
set_option maxRecDepth 100000 in
set_option maxHeartbeats 4000000 in
theorem lits_yes (t : Nd) (v : Nv) (w : World) (hin : NdIn w v t) (hwt : wtN t ≤ 100000000) (he : expE t 64 = 0) (hsm : ¬ 200 < sizeN t) (cs : List (List Lt)) (ps : List Pd) (hcs : expC t 64 = cs) (hps : lvN t = ps) (hcl : cs.length ≤ 64) (hb : ∀ ls ∈ cs, litBound ls ∧ ls.length ≤ 1000000000) (pb : ∀ p ∈ ps, p.ints.length ≤ 1000000000 ∧ p.words.length ≤ 1000000000) (pl : ps.length ≤ 100000000)
    (h1 : ∀ c ∈ cs, ∀ x ∈ c, ps.any (sP x) = true) (h2 : ∀ p ∈ ps, cs.flatten.any (fun x => sP x p) = true) :
    Calls Try.prog 15 #[v.val] w fun e w' => e = .returned (.bool true) ∧ Below w.heap.size w w' := by
  have hszw := size_wt t
  obtain ⟨X, HX⟩ : ∃ X, w.alloc (.cells #[.int .i64 v.kind, .string v.attr, .slice v.qi v.ni v.ci, .slice v.qw v.nw v.cw, .int .i64 v.lo, .int .i64 v.hi, .int .i64 v.op, .slice v.qk v.nk v.ck] 31) = X := ⟨_, rfl⟩
  have bX : Below w.heap.size w X := by rw [← HX]; exact (Below.refl _ _).alloc (Nat.le_refl _) _
  have x8 : X.heap[w.heap.size]? = some (.cells #[.int .i64 v.kind, .string v.attr, .slice v.qi v.ni v.ci, .slice v.qw v.nw v.cw, .int .i64 v.lo, .int .i64 v.hi, .int .i64 v.op, .slice v.qk v.nk v.ck] 31 (0, 0)) := by rw [← HX]; exact box_nw _ _
  obtain ⟨c0, c1, c2, c3, c4, c5, c6, c7⟩ := of8' x8
  have hlt8 := heap_lt x8
  have X8 := hide x8
  have BX := hide bX
  have HIN := hide (hin.keep bX)
  have hfx := fixed8_any X
  have hE := fun (W : World) (hW : Below X.heap.size X W) => expand_any t 64 v W ((unhide HIN).keep hW) (by omega)
  have hS := fun (W : World) (hW : Below X.heap.size X W) => size_any t v W ((unhide HIN).keep hW) (Nat.le_trans (size_wt t) (by omega))
  simp only [Nv.val] at hE hS ⊢
  clear hin bX x8
  have hV := fun (W : World) (hW : Below X.heap.size X W) => lv_any t v X W (unhide HIN) hW (by omega)
  simp only [Nv.val] at hV
  rw [he, hcs] at hE
  rw [hps] at hV
  have e2 : decide ((sizeN t : Int) > 200) = false := by simp; omega
  obtain ⟨s, hs⟩ : ∃ s, sizeN t = s := ⟨_, rfl⟩
  rw [hs] at hS e2 hszw
  obtain ⟨cur, hcz, hct, hmk⟩ := makeB ps.length (by omega)
  have hmx : ps.length ≤ maxLen := by unfold maxLen; omega
  have HBD := hide hb
  have HPB := hide pb
  have HH1 := hide h1
  have HH2 := hide h2
  have HCZ := hide (And.intro hcz hct)
  have a0 : (ps.length : Int) ≤ 100000000 := by omega
  have a1 : (0 : Int) ≤ (ps.length : Int) := by omega
  have a2 : (cs.length : Int) ≤ 64 := by omega
  clear he hcs hps hsm hs hb pb h1 h2 hcz hct
  go_enter Try.func15, Try.ntmps15
  go_wp2_with (first
    | (go_at_call 55; refine hfx.mono ?_; rintro e w1 ⟨rfl, b1⟩; (obtain ⟨d0, d1, d2, d3, d4, d5, d6, d7⟩ := of8' ((b1.block _ hlt8).trans (unhide X8))); have B1 := hide b1; clear b1)
    | (go_at_call 56; refine (hE _ (unhide B1)).mono ?_; rintro e w2 ⟨⟨q2, c2', rfl, cj⟩, b2⟩; simp only; have CJ2 := hide cj.of; have B2 := hide (below_sub (unhide B1) b2); (obtain ⟨f0, f1, f2, f3, f4, f5, f6, f7⟩ := of8' (((unhide B2).block _ hlt8).trans (unhide X8))); clear cj b2)
    | (go_at_call 66; refine (hS _ (unhide B2)).mono ?_; rintro e w3 ⟨rfl, b3⟩; have B3 := hide (below_sub (unhide B2) b3); have CJ3 := hide ((unhide CJ2).below b3); (obtain ⟨h0, h1, h2, h3, h4, h5, h6, h7⟩ := of8' (((unhide B3).block _ hlt8).trans (unhide X8))); clear b3)
    | (go_at_call 67; refine (hV _ (unhide B3)).mono ?_; rintro e M ⟨⟨q4, c4', us, rfl, hu1, hu2⟩, b4⟩; have hul : us.length = ps.length := hu2.1; rw [hul]; have OU := hide hu1.ls; have PU := hide hu2; have B4 := hide (below_sub (unhide B3) b4); have CJ4 := hide ((unhide CJ3).below b4); clear b4 hu1 hu2))
  obtain ⟨Y, HY⟩ : ∃ Y, M.alloc (.cells cur 4) = Y := ⟨_, rfl⟩
  have bY : Below M.heap.size M Y := by rw [← HY]; exact (Below.refl _ _).alloc (Nat.le_refl _) _
  have yk : Y.heap[M.heap.size]? = some (.cells cur 4 (0, 0)) := by rw [← HY]; exact box_nw _ _
  have sY : Y.heap.size = M.heap.size + 1 := by rw [← HY]; simp
  have RB := hide (show Y.ownsRow M.heap.size 4 1 (.slice (some ⟨M.heap.size, 0, none⟩) ps.length ps.length) ps.length (flags ps []) by rw [flags_nil, ← (unhide HCZ).2]; exact rowOf10 yk (by omega) (unhide HCZ).1 hmx)
  have BY := hide bY
  have PM := hide ((unhide PU).keep (unhide B4))
  clear bY yk c0 c1 c2 c3 c4 c5 c6 c7 d0 d1 d2 d3 d4 d5 d6 d7 f0 f1 f2 f3 f4 f5 f6 f7 h0 h1 h2 h3 h4 h5 h6 h7
  simp only [HY]
  go_loopw [38] (fun i wr => ∃ k : Nat, k ≤ cs.length ∧ i = .int .i64 k ∧ Hid (wr.ownsRow M.heap.size 4 1 (.slice (some ⟨M.heap.size, 0, none⟩) ps.length ps.length) ps.length (flags ps (cs.take k).flatten)) ∧ Hid (Below M.heap.size M wr) ∧ M.heap.size + 1 ≤ wr.heap.size) (fun i _ => cs.length - (intOf i).toNat)
  case atStart => exact ⟨0, by omega, rfl, RB, BY, by omega⟩
  case round =>
    obtain ⟨k, hk, rfl, R1, HB1, hsz1⟩ := hrel
    obtain ⟨W1, rfl⟩ : ∃ W1, W1 = wr := ⟨_, rfl⟩
    by_cases hlt : k < cs.length
    · obtain ⟨c, hc, hd⟩ := get_at hlt
      clear hd
      obtain ⟨b, off, qc, cc, hq, hbb, hlits, g0⟩ := (unhide CJ4).at hc
      subst hq
      have g1 := ((unhide HB1).cell (p := ⟨b, off + k, none⟩) hbb).trans g0
      have hcm := List.mem_of_getElem? hc
      obtain ⟨bd1, bd2⟩ := unhide HBD c hcm
      have ki0 : (0 : Int) ≤ (k : Int) := by omega
      have ki1 : (k : Int) < (cs.length : Int) := by omega
      have b2 : (c.length : Int) ≤ 1000000000 := by omega
      have HLT := hide hlits
      have HSN := hide (show (cs.take (k + 1)).flatten = (cs.take k).flatten ++ c by rw [take_snoc_of hc]; simp)
      clear hlits g0 hc
      go_wp2
      go_loopw [44] (fun i wr => ∃ k2 : Nat, k2 ≤ c.length ∧ i = .int .i64 k2 ∧ Hid (wr.ownsRow M.heap.size 4 1 (.slice (some ⟨M.heap.size, 0, none⟩) ps.length ps.length) ps.length (flags ps ((cs.take k).flatten ++ c.take k2))) ∧ Hid (Below M.heap.size M wr) ∧ M.heap.size + 1 ≤ wr.heap.size) (fun i _ => c.length - (intOf i).toNat)
      case atStart => exact ⟨0, by omega, rfl, by simpa using R1, HB1, hsz1⟩
      case round =>
        obtain ⟨k2, hk2, rfl, R2, HB2, hsz2⟩ := hrel
        obtain ⟨W2, rfl⟩ : ∃ W2, W2 = wr := ⟨_, rfl⟩
        by_cases hlt2 : k2 < c.length
        · obtain ⟨x, hx, hd⟩ := get_at hlt2
          clear hd
          obtain ⟨bx, ox, u, hq, hbx, s1, t1, g2, g3, g4, g5, g6, g7, g8⟩ := (unhide HLT).at7 hx
          subst hq
          have e0 := ((unhide HB2).cell (p := ⟨bx, ox + k2 * 7, none⟩) hbx).trans g2
          have e1 := ((unhide HB2).cell (p := ⟨bx, ox + k2 * 7 + 1, none⟩) hbx).trans g3
          have e2 := ((unhide HB2).cell (p := ⟨bx, ox + k2 * 7 + 2, none⟩) hbx).trans g4
          have e3 := ((unhide HB2).cell (p := ⟨bx, ox + k2 * 7 + 3, none⟩) hbx).trans g5
          have e4 := ((unhide HB2).cell (p := ⟨bx, ox + k2 * 7 + 4, none⟩) hbx).trans g6
          have e5 := ((unhide HB2).cell (p := ⟨bx, ox + k2 * 7 + 5, none⟩) hbx).trans g7
          have e6 := ((unhide HB2).cell (p := ⟨bx, ox + k2 * 7 + 6, none⟩) hbx).trans g8
          have hth := unhide HH1 c hcm x (List.mem_of_getElem? hx)
          have hsn2 : (cs.take k).flatten ++ c.take (k2 + 1) = ((cs.take k).flatten ++ c.take k2) ++ [x] := by rw [take_snoc_of hx, List.append_assoc]
          obtain ⟨D, hD⟩ : ∃ D, (cs.take k).flatten ++ c.take k2 = D := ⟨_, rfl⟩
          rw [hD] at hsn2 R2
          obtain ⟨m1, m2⟩ := bd1 x (List.mem_of_getElem? hx)
          have kj0 : (0 : Int) ≤ (k2 : Int) := by omega
          have kj1 : (k2 : Int) < (c.length : Int) := by omega
          obtain ⟨Z, HZ⟩ : ∃ Z, W2.alloc (.cells #[.int .i64 x.kind, .string x.attr, .slice u.qi x.ints.length u.ci, .slice u.qw x.words.length u.cw, .int .i64 x.lo, .int .i64 x.hi, .bool x.neg] 81) = Z := ⟨_, rfl⟩
          have bZ : Below W2.heap.size W2 Z := by rw [← HZ]; exact (Below.refl _ _).alloc (Nat.le_refl _) _
          have zk : Z.heap[W2.heap.size]? = some (.cells #[.int .i64 x.kind, .string x.attr, .slice u.qi x.ints.length u.ci, .slice u.qw x.words.length u.cw, .int .i64 x.lo, .int .i64 x.hi, .bool x.neg] 81 (0, 0)) := by rw [← HZ]; exact box_nw _ _
          have sZ : Z.heap.size = W2.heap.size + 1 := by rw [← HZ]; simp
          have BMZ := hide (below_sub (unhide HB2) bZ)
          have RZ := hide (row_below (unhide R2) bZ)
          have ZK := hide zk
          have S1 := hide s1
          have T1 := hide t1
          have HTH := hide hth
          have HS2 := hide hsn2
          have lz : W2.heap.size < Z.heap.size := by omega
          have hgz : M.heap.size < W2.heap.size := by omega
          clear hx s1 t1 g2 g3 g4 g5 g6 g7 g8 bZ zk hth hsn2 hD
          go_wp2
          go_loopw [11, 50] (fun th i w3' => ∃ k3 : Nat, k3 ≤ ps.length ∧ i = .int .i64 k3 ∧ th = .bool ((ps.take k3).any (sP x)) ∧ Hid (w3'.ownsRow M.heap.size 4 1 (.slice (some ⟨M.heap.size, 0, none⟩) ps.length ps.length) ps.length ((flags ps (D ++ [x])).take k3 ++ (flags ps D).drop k3)) ∧ Hid (Z.grownBy w3' (some M.heap.size))) (fun _ i _ => ps.length - (intOf i).toNat)
          case atStart => exact ⟨0, by omega, rfl, rfl, by simpa using RZ, hide (grefl _ _)⟩
          case round =>
            obtain ⟨k3, hk3, rfl, rfl, R3, G3⟩ := hrel
            obtain ⟨W, rfl⟩ : ∃ W, W = wr := ⟨_, rfl⟩
            have BMW : Below M.heap.size M W := (unhide BMZ).grown (unhide G3) (by omega) (fun j e => by cases e; exact Nat.le_refl _)
            have gsz := (unhide G3).size
            obtain ⟨n0, n1, n2, n3, n4, n5, n6⟩ := of7' (((unhide G3).block W2.heap.size (by omega) (fun e => by have := Option.some.inj e; omega)).trans (unhide ZK))
            by_cases hlt3 : k3 < ps.length
            · obtain ⟨p, hp, _⟩ := get_at hlt3
              obtain ⟨v2, hv2, _⟩ := get_at (l := us) (k := k3) (by omega)
              obtain ⟨p1, p2, p3, p4, p5, p6, p7, p8⟩ := (unhide PM).2 k3 v2 p hv2 hp
              obtain ⟨bp, op', hq, hbp, q0, q1, q2', q3, q4', q5⟩ := predsAt (unhide OU) hv2
              subst hq
              rw [p1] at q0
              rw [p2] at q1
              rw [p3] at q2'
              rw [p4] at q3
              rw [p5] at q4'
              rw [p6] at q5
              have r0 := (BMW.cell (p := ⟨bp, op' + k3 * 6, none⟩) hbp).trans q0
              have r1 := (BMW.cell (p := ⟨bp, op' + k3 * 6 + 1, none⟩) hbp).trans q1
              have r2 := (BMW.cell (p := ⟨bp, op' + k3 * 6 + 2, none⟩) hbp).trans q2'
              have r3 := (BMW.cell (p := ⟨bp, op' + k3 * 6 + 3, none⟩) hbp).trans q3
              have r4 := (BMW.cell (p := ⟨bp, op' + k3 * 6 + 4, none⟩) hbp).trans q4'
              have r5 := (BMW.cell (p := ⟨bp, op' + k3 * 6 + 5, none⟩) hbp).trans q5
              obtain ⟨pb1, pb2⟩ := unhide HPB p (List.mem_of_getElem? hp)
              have kl0 : (0 : Int) ≤ (k3 : Int) := by omega
              have kl1 : (k3 : Int) < (ps.length : Int) := by omega
              obtain ⟨Z3, HZ3⟩ : ∃ Z3, W.alloc (.cells #[.int .i64 p.kind, .string p.attr, .slice v2.qi p.ints.length v2.ci, .slice v2.qw p.words.length v2.cw, .int .i64 p.lo, .int .i64 p.hi] 29) = Z3 := ⟨_, rfl⟩
              have bZ3 : Below W.heap.size W Z3 := by rw [← HZ3]; exact (Below.refl _ _).alloc (Nat.le_refl _) _
              have zk3 : Z3.heap[W.heap.size]? = some (.cells #[.int .i64 p.kind, .string p.attr, .slice v2.qi p.ints.length v2.ci, .slice v2.qw p.words.length v2.cw, .int .i64 p.lo, .int .i64 p.hi] 29 (0, 0)) := by rw [← HZ3]; exact box_nw _ _
              obtain ⟨z0, z1, z2, z3, z4, z5⟩ := of6' zk3
              have o0 := (bZ3.cell (p := ⟨W2.heap.size, 0, none⟩) (by simp only; omega)).trans n0
              have o1 := (bZ3.cell (p := ⟨W2.heap.size, 1, none⟩) (by simp only; omega)).trans n1
              have o2 := (bZ3.cell (p := ⟨W2.heap.size, 2, none⟩) (by simp only; omega)).trans n2
              have o3 := (bZ3.cell (p := ⟨W2.heap.size, 3, none⟩) (by simp only; omega)).trans n3
              have o4 := (bZ3.cell (p := ⟨W2.heap.size, 4, none⟩) (by simp only; omega)).trans n4
              have o5 := (bZ3.cell (p := ⟨W2.heap.size, 5, none⟩) (by simp only; omega)).trans n5
              have BMZ3 := below_sub BMW bZ3
              have h68 := samePred_any x.kind x.attr u.qi u.ci x.ints u.qw u.cw x.words x.lo x.hi p.kind p.attr v2.qi v2.ci p.ints v2.qw v2.cw p.words p.lo p.hi Z3 ((unhide S1).below BMZ3) (p7.below BMZ3) ((unhide T1).below BMZ3) (p8.below BMZ3) (by omega) (by omega)
              rw [show sameQ x.kind x.attr x.ints x.words x.lo x.hi p.kind p.attr p.ints p.words p.lo p.hi = sP x p from rfl] at h68
              have BZ3 := hide bZ3
              have HPP := hide hp
              have FD := hide (flags_drop (done := D) hp)
              clear hp hv2 p1 p2 p3 p4 p5 p6 p7 p8 q0 q1 q2' q3 q4' q5 bZ3 zk3 BMZ3
              cases hsp : sP x p with
              | true =>
                rw [hsp] at h68
                have FH := hide (flags_hit (done := D) (unhide HPP) hsp)
                have HAN := hide (show (ps.take (k3 + 1)).any (sP x) = true by rw [take_snoc_of (unhide HPP)]; simp [hsp])
                go_wp2_with (go_at_call 68; refine h68.mono ?_; rintro e w5 ⟨rfl, b5⟩; have bb := below_sub (unhide BZ3) b5; have R5 := hide (show w5.ownsRow M.heap.size 4 1 (.slice (some ⟨M.heap.size, 0, none⟩) ps.length ps.length) ps.length ((flags ps (D ++ [x])).take k3 ++ [Value.bool (D.any (fun x => sP x p))] ++ (flags ps D).drop (k3 + 1)) by have h := row_below (unhide R3) bb; rw [unhide FD, ← List.append_assoc] at h; exact h); have ic := World.ownsRow.cellAt (unhide R5) k3 (by omega); rw [List.append_assoc, List.getElem?_append_right (by simp [flags_len]; omega), show k3 - ((flags ps (D ++ [x])).take k3).length = 0 by simp [flags_len]; omega] at ic; simp only [List.cons_append, List.getElem?_cons_zero] at ic; have iff5 : ∀ o, w5.frozen? ⟨M.heap.size, o, none⟩ = false := ownsRow_free (unhide R5); have G5 := hide (gtrans (unhide G3) (gbelow bb)); clear b5 bb)
                exact ⟨⟨k3 + 1, by omega, by go_num, by rw [unhide HAN], hide (by
                  have h := row1 (o := k3) _ (.bool true) (unhide R5) (by simp [flags_len]; omega)
                  rw [unhide FH]
                  exact h), hide (gset (unhide G5) _ _)⟩, by simp [intOf]; omega⟩
              | false =>
                rw [hsp] at h68
                have FM := hide (flags_mis (done := D) (unhide HPP) hsp)
                have HAN := hide (show (ps.take (k3 + 1)).any (sP x) = (ps.take k3).any (sP x) by rw [take_snoc_of (unhide HPP)]; simp [hsp])
                go_wp2_with (go_at_call 68; refine h68.mono ?_; rintro e w5 ⟨rfl, b5⟩; have bb := below_sub (unhide BZ3) b5; have R5 := hide (row_below (unhide R3) bb); have G5 := hide (gtrans (unhide G3) (gbelow bb)); clear b5 bb)
                exact ⟨⟨k3 + 1, by omega, by go_num, by rw [unhide HAN], hide (by
                  have h := unhide R5
                  rw [unhide FD, ← List.append_assoc, ← unhide FM] at h
                  exact h), G5⟩, by simp [intOf]; omega⟩
            · have hkl : k3 = ps.length := by omega
              subst hkl
              have kl1 : ¬ (ps.length : Int) < (ps.length : Int) := by omega
              rw [List.take_of_length_le (Nat.le_refl _), unhide HTH]
              have R6 := unhide R3
              rw [List.take_of_length_le (by rw [flags_len]; exact Nat.le_refl _), List.drop_of_length_le (by rw [flags_len]; exact Nat.le_refl _), List.append_nil, ← unhide HS2] at R6
              have HR6 := hide R6
              have HBMW := hide BMW
              clear R6 BMW
              go_wp2
              exact ⟨⟨k2 + 1, by omega, by go_num, HR6, HBMW, by omega⟩, by simp [intOf]; omega⟩
        · have hkl : k2 = c.length := by omega
          subst hkl
          have kj1 : ¬ (c.length : Int) < (c.length : Int) := by omega
          rw [List.take_of_length_le (Nat.le_refl _), ← unhide HSN] at R2
          go_wp2
          exact ⟨⟨k + 1, by omega, by go_num, R2, HB2, hsz2⟩, by simp [intOf]; omega⟩
    · have hkl : k = cs.length := by omega
      subst hkl
      have ki1 : ¬ (cs.length : Int) < (cs.length : Int) := by omega
      rw [List.take_of_length_le (Nat.le_refl _)] at R1
      go_wp2
      go_loopw [69] (fun i wr => ∃ k4 : Nat, k4 ≤ ps.length ∧ i = .int .i64 k4 ∧ wr = W1) (fun i _ => ps.length - (intOf i).toNat)
      case atStart => exact ⟨0, by omega, rfl, rfl⟩
      case round =>
        obtain ⟨k4, hk4, rfl, rfl⟩ := hrel
        by_cases hlt4 : k4 < ps.length
        · obtain ⟨p, hp, _⟩ := get_at hlt4
          have ic := World.ownsRow.cellAt (unhide R1) k4 (by omega)
          rw [flags_at hp, unhide HH2 p (List.mem_of_getElem? hp)] at ic
          have kl0 : (0 : Int) ≤ (k4 : Int) := by omega
          have kl1 : (k4 : Int) < (ps.length : Int) := by omega
          clear hp
          go_wp2
          exact ⟨⟨k4 + 1, by omega, by go_num, trivial⟩, by simp [intOf]; omega⟩
        · have kl1 : ¬ (k4 : Int) < (ps.length : Int) := by omega
          go_wp2
          go_ret
          exact ⟨rfl, below_sub (unhide BX) (below_sub (unhide B4) (unhide HB1))⟩
theorem dnfLiterals_any (t : Nd) (v : Nv) (w : World) (hin : NdIn w v t) (hwt : wtN t ≤ 100000000) :
    Calls Try.prog 15 #[v.val] w fun e w' => e = .returned (.bool true) ∧ Below w.heap.size w w' := by
  by_cases he : expE t 64 = 0
  case neg => exact lits_bad t v w hin hwt he
  by_cases hsm : 200 < sizeN t
  case pos => exact lits_big t v w hin hwt he hsm
  have hok : WidthE t 64 = 0 ∧ ¬ WidthA t 64 > 64 := by
    unfold expE at he
    by_cases e0 : WidthE t 64 = 0
    · rw [if_pos e0] at he
      by_cases e1 : WidthA t 64 > 64
      · rw [if_pos e1] at he; cases he
      · exact ⟨e0, e1⟩
    · rw [if_neg e0] at he; exact absurd he e0
  obtain ⟨hc, _, _, _, hwa, _, hCe⟩ := exp_ok hok.1 hok.2
  have hTc := chk_down t false hc
  have hTa := at_down t false hc
  have hlv := lv_down t false hc
  have hw := wt_down t false hc
  refine lits_yes t v w hin hwt he hsm (cjN (downN t false)) (lvN t) hCe rfl (by have := hok.2; omega) (fun ls hl => ?_) (fun p hp => ?_) (by have := lv_len t; omega) (fun c hc2 x hx => ?_) (fun p hp => ?_)
  · obtain ⟨h1, h2⟩ := cj_small _ ls hl
    exact ⟨fun l h => by have := h2 l h; omega, by omega⟩
  · have := lv_bound t p hp
    omega
  · have := lits_in _ hTc hTa c hc2 x hx
    rw [hlv] at this
    exact List.any_eq_true.2 ⟨_, this, sP_of rfl⟩
  · obtain ⟨c, hc2, x, hx, hxp⟩ := lits_all _ hTc hTa p (by rw [hlv]; exact hp)
    exact List.any_eq_true.2 ⟨x, List.mem_flatten.2 ⟨c, hc2, hx⟩, sP_of hxp⟩
end Go.Proofs.Ytppkjlmdfcifgaa
