/- The reference's nth at an And. -/
import Derived.Test.YtmpdfgebhpfhhaaDnfNth
namespace Go.Proofs.Ytmpdfgebhpfhhaa
open Go.RowKit Go.Sort

set_option maxRecDepth 100000 in
set_option maxHeartbeats 8000000 in
theorem nth_or (kind : Int) (attr : ByteArray) (qi : Option Addr) (ci : Nat) (ints : List Int) (qw : Option Addr) (cw : Nat) (words : List ByteArray) (lo hi : Int) (qk : Option Addr) (ck : Nat) (kids : List Nd) (i : Nat) (c : List Lt) (w0 w : World) (hb0 : Below w0.heap.size w0 w) (hk : NdsOf w0 qk ck kids) (ih : ∀ x ∈ kids, NthP x) (hc : ∀ x ∈ kids, chkN x = true ∧ atN x = true) (l3 : wtL kids ≤ 400000000) (h64 : (cjSum kids).length ≤ 64) (hix : (cjSum kids)[i]? = some c) :
    Calls Try.prog 24 #[.agg #[.int .i64 kind, .string attr, .slice qi ints.length ci, .slice qw words.length cw, .int .i64 lo, .int .i64 hi, .int .i64 4, .slice qk kids.length ck], .int .i64 i] w (NthEnd w0 c w) := by
  obtain ⟨X, HX⟩ : ∃ X, w.alloc (.cells #[.int .i64 kind, .string attr, .slice qi ints.length ci, .slice qw words.length cw, .int .i64 lo, .int .i64 hi, .int .i64 4, .slice qk kids.length ck] 28) = X := ⟨_, rfl⟩
  have hX0 : X.heap[w.heap.size]? = some (.cells #[.int .i64 kind, .string attr, .slice qi ints.length ci, .slice qw words.length cw, .int .i64 lo, .int .i64 hi, .int .i64 4, .slice qk kids.length ck] 28 (0, 0)) := by rw [← HX]; exact box_nw _ _
  have hwX : Below w.heap.size w X := by rw [← HX]; exact (Below.refl _ _).alloc (Nat.le_refl _) _
  obtain ⟨x0, x1, x2, x3, x4, x5, x6, x7⟩ := of8' hX0
  have hz0 := heap_lt hX0
  have HX0 := hide hX0
  have HWX := hide hwX
  have b0X := hb0.trans (hwX.mono hb0.size)
  have HB0 := hide b0X
  have hlen := Nat.le_trans (Nat.le_trans (len_size kids) (sizeL_wt kids)) l3
  have a0 : (kids.length : Int) ≤ 1000000000 := by omega
  have HK := hide hk
  have IH := hide ih
  have HC := hide hc
  have HI := hide hix
  have H64 := hide h64
  clear hk ih hc hwX hX0 b0X hb0 hix h64
  go_enter Try.func24, Try.ntmps24
  go_wp2
  go_loopw [1, 5] (fun iv kv wr => ∃ (k p : Nat), k ≤ kids.length ∧ kv = .int .i64 k ∧ iv = .int .i64 p ∧ (cjSum (kids.drop k))[p]? = some c ∧ (cjSum (kids.drop k)).length ≤ 64 ∧ Below X.heap.size X wr) (fun _ kv _ => kids.length - (intOf kv).toNat)
  case atStart => exact ⟨0, i, by omega, rfl, rfl, unhide HI, unhide H64, Below.refl _ _⟩
  case round =>
    obtain ⟨k, p, hkk, rfl, rfl, hp, hps, hbel⟩ := hrel
    have HB := hide hbel
    obtain ⟨t0, t1, t2, t3, t4, t5, t6, t7⟩ := of8' ((hbel.block _ hz0).trans (unhide HX0))
    have hpl := (List.getElem?_eq_some_iff.1 hp).1
    by_cases hlt : k < kids.length
    · obtain ⟨x, hx, hxd⟩ := get_at hlt
      clear hxd
      have b0r := below_sub (unhide HB0) hbel
      obtain ⟨b, off, v, hq, hbw, hin, hk8⟩ := (unhide HK).at hx
      subst hq
      have HK8 := hide (show Kid8 w0 b (off + k * 8) v from hk8)
      have HB0r := hide b0r
      obtain ⟨g0, g1, g2, g3, g4, g5, g6, g7⟩ := (unhide HK8).keep hbw b0r
      have hxm : x ∈ kids := List.mem_of_getElem? hx
      have hxw := wtL_mem hxm
      have hxc := unhide HC x hxm
      rw [(show kids.drop k = x :: kids.drop (k + 1) by obtain ⟨h1, h2⟩ := List.getElem?_eq_some_iff.1 hx; rw [List.drop_eq_getElem_cons h1, h2])] at hp hps hpl
      have hx64 : (cjN x).length ≤ 64 := by simp only [cjSum, List.length_append] at hps; omega
      have hwl := wide_len hxc.1 hxc.2 hx64
      rw [sum_get] at hp
      have ki0 : (0 : Int) ≤ (k : Int) := by omega
      have ki1 : (k : Int) < (kids.length : Int) := by omega
      have hW := rwid_any x false 64 v wr (hin.keep b0r) hxc.1 (by omega)
      rw [hwl.1] at hW
      have hN := fun (W : World) (hW : Below wr.heap.size wr W) (hpx : (cjN x)[p]? = some c) => unhide IH x hxm w0 W v p c hin (below_sub b0r hW) hxc.1 hxc.2 (by omega) hx64 hpx
      simp only [Nv.val] at hW hN
      have p64 : p < 64 := by omega
      have hps2 : (cjSum (kids.drop (k + 1))).length ≤ 64 := by simp only [cjSum, List.length_append] at hps; omega
      obtain ⟨L, hL⟩ : ∃ L, (cjN x).length = L := ⟨_, rfl⟩
      rw [hL] at hW hp hx64
      have HXw := hide hxw
      by_cases hpL : p < L
      · rw [if_pos hpL] at hp
        have hNN := hide (fun (W : World) (hW : Below wr.heap.size wr W) => hN W hW hp)
        have pL : (p : Int) < (L : Int) := by omega
        have hzr : w.heap.size < wr.heap.size := Nat.lt_of_lt_of_le hz0 hbel.size
        clear hN hp hps hpl hin hx hxm hwl hL b0r hbel hps2 hk8 hxc hxw
        go_wp2_with (first
          | (go_at_call 44; refine hW.mono ?_; rintro e w1 ⟨rfl, b1⟩; have B1 := hide b1; have HN1 := hide (unhide hNN _ b1); have G0 := (b1.cell (p := ⟨w.heap.size, 7, none⟩) hzr).trans t7; obtain ⟨F0, F1, F2, F3, F4, F5, F6, F7⟩ := (unhide HK8).keep hbw (below_sub (unhide HB0r) b1); clear b1)
          | (go_at_call 24; refine (unhide HN1).mono ?_; rintro e w2 ⟨⟨q2, c2, us2, rfl, hl2, hs2, hb2⟩, b2⟩; have B2 := hide b2; have HA := hide (And.intro hl2 (And.intro hs2 hb2)); clear b2 hl2 hs2 hb2))
        go_ret
        have s1 := (unhide HWX).size
        have s2 := (unhide HB).size
        have s3 := (unhide B1).size
        exact ⟨⟨_, _, us2, rfl, (unhide HA).1, ⟨(unhide HA).2.1.1, fun a h => by have := (unhide HA).2.1.2 a h; omega⟩, (unhide HA).2.2⟩, below_sub (unhide HWX) (below_sub (unhide HB) (below_sub (unhide B1) (unhide B2)))⟩
      · rw [if_neg hpL] at hp
        have pL : ¬ (p : Int) < (L : Int) := by omega
        have hsub : (p : Int) - (L : Int) = ((p - L : Nat) : Int) := by omega
        have HP := hide hp
        have HPS := hide hps2
        clear hN hp hps hpl hin hx hxm hwl hL b0r hbel hps2 hk8 hxc hxw
        go_wp2_with (go_at_call 44; refine hW.mono ?_; rintro e w1 ⟨rfl, b1⟩; have B1 := hide b1; clear b1)
        go_roundw
        case rel => exact ⟨k + 1, p - L, by omega, by go_num, by first | rfl | go_num, unhide HP, unhide HPS, below_sub (unhide HB) (unhide B1)⟩
        case measure => simp [intOf]; omega
    · rw [List.drop_eq_nil_of_le (by omega)] at hpl
      simp [cjSum] at hpl
end Go.Proofs.Ytmpdfgebhpfhhaa
namespace Go.Proofs.Ytmpdfgebhpfhhaa
open Go.RowKit Go.Sort

set_option maxRecDepth 100000 in
set_option maxHeartbeats 8000000 in
theorem nth_and (kind : Int) (attr : ByteArray) (qi : Option Addr) (ci : Nat) (ints : List Int) (qw : Option Addr) (cw : Nat) (words : List ByteArray) (lo hi : Int) (qk : Option Addr) (ck : Nat) (kids : List Nd) (i : Nat) (c : List Lt) (w0 w : World) (hb0 : Below w0.heap.size w0 w) (hk : NdsOf w0 qk ck kids) (ih : ∀ x ∈ kids, NthP x) (hc : ∀ x ∈ kids, chkN x = true ∧ atN x = true) (l3 : wtL kids ≤ 400000000) (h64 : (cjProd kids).length ≤ 64) (hix : (cjProd kids)[i]? = some c) (lc : c.length ≤ 400000000) :
    Calls Try.prog 24 #[.agg #[.int .i64 kind, .string attr, .slice qi ints.length ci, .slice qw words.length cw, .int .i64 lo, .int .i64 hi, .int .i64 3, .slice qk kids.length ck], .int .i64 i] w (NthEnd w0 c w) := by
  obtain ⟨X, HX⟩ : ∃ X, w.alloc (.cells #[.int .i64 kind, .string attr, .slice qi ints.length ci, .slice qw words.length cw, .int .i64 lo, .int .i64 hi, .int .i64 3, .slice qk kids.length ck] 28) = X := ⟨_, rfl⟩
  have hX0 : X.heap[w.heap.size]? = some (.cells #[.int .i64 kind, .string attr, .slice qi ints.length ci, .slice qw words.length cw, .int .i64 lo, .int .i64 hi, .int .i64 3, .slice qk kids.length ck] 28 (0, 0)) := by rw [← HX]; exact box_nw _ _
  have hwX : Below w.heap.size w X := by rw [← HX]; exact (Below.refl _ _).alloc (Nat.le_refl _) _
  obtain ⟨x0, x1, x2, x3, x4, x5, x6, x7⟩ := of8' hX0
  have hz0 := heap_lt hX0
  have HX0 := hide hX0
  have HWX := hide hwX
  have b0X := hb0.trans (hwX.mono hb0.size)
  have HB0 := hide b0X
  have hlen := Nat.le_trans (Nat.le_trans (len_size kids) (sizeL_wt kids)) l3
  have a0 : (kids.length : Int) ≤ 1000000000 := by omega
  have mixed : Try.prog.follows .mixedOrders = true := by kernel_rfl
  have i64 := (List.getElem?_eq_some_iff.1 hix).1
  have h64m : ∀ x ∈ kids, (cjN x).length ≤ 64 := fun x hx => Nat.le_trans (prod_mem hx (by omega)) h64
  have HK := hide hk
  have IH := hide ih
  have HC := hide hc
  have HI := hide hix
  have H64 := hide h64m
  have HLC := hide lc
  have sXw := hwX.size
  have hi64 : i < 64 := by omega
  clear hk ih hc hwX hX0 b0X hb0 hix h64m i64 h64 lc
  go_enter Try.func24, Try.ntmps24
  go_wp2
  go_loopw [1, 7, 8] (fun iv pv kv wr => ∃ (m : Nat) (K : Int) (p : Nat) (d : List Lt) (ps : List (List Lt)) (R : Nat) (qm : Option Addr) (cm : Nat) (us : List (Option Addr × Nat × Nat)), m + R = kids.length ∧ K + 1 = m ∧ p < 64 ∧ iv = .int .i64 p ∧ kv = .int .i64 K ∧ pv = .slice qm R cm ∧ ps.length = R ∧ us.length = R ∧ (cjProd (kids.take m))[p]? = some d ∧ c = d ++ ps.reverse.flatten ∧ Hid (OwnK encQ 45 1 X.heap.size wr qm cm us) ∧ Hid (OffP X.heap.size (PartsAt w0 ps us) (Value.slice qm R cm).ownBlock wr) ∧ Below X.heap.size X wr) (fun _ _ kv _ => (intOf kv + 1).toNat)
  case atStart => exact ⟨kids.length, (kids.length : Int) - 1, i, c, [], 0, none, 0, [], by omega, by omega, hi64, rfl, by go_num, rfl, rfl, rfl, by rw [List.take_length]; exact unhide HI, by simp, hide (OwnK.nil _ _), hide (fun x _ _ j u ls h => by simp at h), Below.refl _ _⟩
  case round =>
    obtain ⟨m1, K, p, d, ps, R, qm, cm, us, hmR, hK, p64, rfl, rfl, rfl, hps, hus, hp, hcd, HO, HF, hbel⟩ := hrel
    have HB := hide hbel
    obtain ⟨t0, t1, t2, t3, t4, t5, t6, t7⟩ := of8' ((hbel.block _ hz0).trans (unhide HX0))
    have hzr : w.heap.size < wr.heap.size := Nat.lt_of_lt_of_le hz0 hbel.size
    cases m1 with
    | succ m =>
      obtain rfl : K = (m : Int) := by omega
      obtain ⟨x, hx, hxd⟩ := get_at (l := kids) (k := m) (by omega)
      clear hxd
      have b0r := below_sub (unhide HB0) hbel
      have hs0X := (unhide HB0).size
      obtain ⟨b, off, v, hq, hbw, hin, hk8⟩ := (unhide HK).at hx
      subst hq
      have HK8 := hide (show Kid8 w0 b (off + m * 8) v from hk8)
      obtain ⟨g0, g1, g2, g3, g4, g5, g6, g7⟩ := (unhide HK8).keep hbw b0r
      have hxm : x ∈ kids := List.mem_of_getElem? hx
      have hxw := wtL_mem hxm
      have hxc := unhide HC x hxm
      have hx64 := unhide H64 x hxm
      have hwl := wide_len hxc.1 hxc.2 hx64
      rw [take_snoc_of hx] at hp
      have hpl := (List.getElem?_eq_some_iff.1 hp).1
      obtain ⟨d1, d2, e3, e4, e5⟩ := prod_last (kids.take m) x p hpl
      rw [hp] at e5
      have e6 : d = d1 ++ d2 := Option.some.inj e5
      subst e6
      have ki0 : (0 : Int) ≤ (m : Int) := by omega
      have ki1 : (m : Int) < (kids.length : Int) := by omega
      have hW := rwid_any x false 64 v wr (hin.keep b0r) hxc.1 (by omega)
      rw [hwl.1] at hW
      have hN := fun (W : World) (hW : Below wr.heap.size wr W) => unhide IH x hxm w0 W v (p % (cjN x).length) d2 hin (below_sub b0r hW) hxc.1 hxc.2 (by omega) hx64 e4
      simp only [Nv.val] at hW hN
      have L1 := hwl.2
      obtain ⟨L, hL⟩ : ∃ L, (cjN x).length = L := ⟨_, rfl⟩
      rw [hL] at hW hN e3 hx64 L1
      have iL : ¬ (L : Int) = 0 := by omega
      have nL : ¬ L = 0 := by omega
      have td2 : (p : Int).tdiv (L : Int) = ((p / L : Nat) : Int) := rfl
      have td3 : (p : Int).tmod (L : Int) = ((p % L : Nat) : Int) := rfl
      obtain ⟨F, hF⟩ : ∃ F, p / L = F := ⟨_, rfl⟩
      obtain ⟨E, hE⟩ : ∃ E, p % L = E := ⟨_, rfl⟩
      rw [hF] at td2 e3
      rw [hE] at td3 hN
      have hF2 : F < 64 := by have := Nat.div_le_self p L; omega
      have hE2 : E < 64 := by have := Nat.mod_le p L; omega
      have wF : IntKind.i64.wrap (F : Int) = (F : Int) := wrap_of _ (by omega) (by omega)
      have hL2 : ∀ b, (Value.slice qm R cm).ownBlock = some b → X.heap.size ≤ b ∧ b < wr.heap.size := by
        have := World.ownsRow.lt (unhide HO)
        rw [hus] at this
        exact this
      have HL2 := hide hL2
      have sX := hbel.size
      have hkm : R + 1 ≤ maxLen := by unfold maxLen; omega
      have hkb : (R + 1) * 24 ≤ 140737488355328 := by omega
      have HUS := hide hus
      have HPL := hide hps
      have HPS := hide (show us.length = ps.length by omega)
      have HEQ := hide hcd
      have HE3 := hide e3
      have HN := hide hN
      have HB0r := hide b0r
      clear hN e3 e4 e5 hp hpl hcd hin hx hxm hwl hL b0r hbel hk8 hxc hxw hus hps hL2 hF hE hK
      go_wp2_with (go_at_call 44; refine hW.mono ?_; rintro e wa ⟨rfl, ba⟩; have BA := hide ba; clear ba)
      have ba := unhide BA
      have sA := ba.size
      have sXa : X.heap.size ≤ wa.heap.size := Nat.le_trans sX sA
      have hzr2 : w.heap.size < wa.heap.size := Nat.lt_of_lt_of_le hzr sA
      have t7a := (ba.cell (p := ⟨w.heap.size, 7, none⟩) hzr).trans t7
      have b0a := below_sub (unhide HB0r) ba
      have s0a := b0a.size
      have hSk : ∀ W, Below wa.heap.size wa W → (W.cell? ⟨w.heap.size, 7, none⟩ = some (.slice (some ⟨b, off, none⟩) kids.length ck) ∧ W.cell? ⟨b, off + m * 8, none⟩ = some (.int .i64 v.kind) ∧ W.cell? ⟨b, off + m * 8 + 1, none⟩ = some (.string v.attr) ∧ W.cell? ⟨b, off + m * 8 + 2, none⟩ = some (.slice v.qi v.ni v.ci) ∧ W.cell? ⟨b, off + m * 8 + 3, none⟩ = some (.slice v.qw v.nw v.cw) ∧ W.cell? ⟨b, off + m * 8 + 4, none⟩ = some (.int .i64 v.lo) ∧ W.cell? ⟨b, off + m * 8 + 5, none⟩ = some (.int .i64 v.hi) ∧ W.cell? ⟨b, off + m * 8 + 6, none⟩ = some (.int .i64 v.op) ∧ W.cell? ⟨b, off + m * 8 + 7, none⟩ = some (.slice v.qk v.nk v.ck)) := fun W hW => ⟨(hW.cell (p := ⟨w.heap.size, 7, none⟩) hzr2).trans t7a, (unhide HK8).keep hbw (below_sub b0a hW)⟩
      have hSg : ∀ Y W, Below wa.heap.size wa Y → Y.grownBy W (Value.slice qm R cm).ownBlock → (W.cell? ⟨w.heap.size, 7, none⟩ = some (.slice (some ⟨b, off, none⟩) kids.length ck) ∧ W.cell? ⟨b, off + m * 8, none⟩ = some (.int .i64 v.kind) ∧ W.cell? ⟨b, off + m * 8 + 1, none⟩ = some (.string v.attr) ∧ W.cell? ⟨b, off + m * 8 + 2, none⟩ = some (.slice v.qi v.ni v.ci) ∧ W.cell? ⟨b, off + m * 8 + 3, none⟩ = some (.slice v.qw v.nw v.cw) ∧ W.cell? ⟨b, off + m * 8 + 4, none⟩ = some (.int .i64 v.lo) ∧ W.cell? ⟨b, off + m * 8 + 5, none⟩ = some (.int .i64 v.hi) ∧ W.cell? ⟨b, off + m * 8 + 6, none⟩ = some (.int .i64 v.op) ∧ W.cell? ⟨b, off + m * 8 + 7, none⟩ = some (.slice v.qk v.nk v.ck)) := fun Y W hY hg => by
        have h1 := hSk Y hY
        have hs := hY.size
        refine ⟨(hg.cell_far ⟨w.heap.size, 7, none⟩ (by show w.heap.size < Y.heap.size; omega) (fun e => by have := (unhide HL2 _ e.symm).1; simp only at this; omega)).trans h1.1, Kid8.grown h1.2 (by omega) hg (fun e => by have := (unhide HL2 _ e.symm).1; omega)⟩
      have hS0 := hSk wa (Below.refl _ _)
      have hN2 := fun (W : World) (hW : Below wa.heap.size wa W) => unhide HN W (below_sub ba hW)
      have HOa := hide ((unhide HO).below ba)
      have HFa := hide ((unhide HF).below ba)
      have HBa := hide (below_sub (unhide HB) ba)
      clear ba b0a t7a
      refine wp_region_held_drew (S := fun w' => (w'.cell? ⟨w.heap.size, 7, none⟩ = some (.slice (some ⟨b, off, none⟩) kids.length ck) ∧ w'.cell? ⟨b, off + m * 8, none⟩ = some (.int .i64 v.kind) ∧ w'.cell? ⟨b, off + m * 8 + 1, none⟩ = some (.string v.attr) ∧ w'.cell? ⟨b, off + m * 8 + 2, none⟩ = some (.slice v.qi v.ni v.ci) ∧ w'.cell? ⟨b, off + m * 8 + 3, none⟩ = some (.slice v.qw v.nw v.cw) ∧ w'.cell? ⟨b, off + m * 8 + 4, none⟩ = some (.int .i64 v.lo) ∧ w'.cell? ⟨b, off + m * 8 + 5, none⟩ = some (.int .i64 v.hi) ∧ w'.cell? ⟨b, off + m * 8 + 6, none⟩ = some (.int .i64 v.op) ∧ w'.cell? ⟨b, off + m * 8 + 7, none⟩ = some (.slice v.qk v.nk v.ck))) (by kernel_rfl) (hS0) (fun hHeld => ?_)
      refine wpAnyH_take (i := 0) (oi := ⟨some 72, .move (.tmp 7), _, _, _, none⟩) (v := ?_) rfl (by kernel_rfl) (by kernel_rfl) (by kernel_rfl) (fun _ _ _ h => h) (Or.inl ⟨by rfl, ?_⟩) (by assumption) ?_
      rotate_left
      · intro wq hSw
        obtain ⟨e0, e1, e2, e3, e4, e5, e6, e7, e8⟩ := hSw
        go_simp
        with_reducible rfl
      simp only [Act.put, List.setIfInBounds_toArray, List.set_cons_zero, List.set_cons_succ]
      refine wpAnyH_take (i := 1) (oi := ⟨some 73, .fieldAddr 28 (.tmp 2) 2, _, _, _, none⟩) (v := ?_) rfl (by kernel_rfl) (by kernel_rfl) (by kernel_rfl) (fun _ _ _ h => h) (Or.inl ⟨by rfl, ?_⟩) (by assumption) ?_
      rotate_left
      · intro wq hSw
        obtain ⟨e0, e1, e2, e3, e4, e5, e6, e7, e8⟩ := hSw
        go_simp
        with_reducible rfl
      simp only [Act.put, List.setIfInBounds_toArray, List.set_cons_zero, List.set_cons_succ]
      refine wpAnyH_take (i := 2) (oi := ⟨some 74, .load 26 (.tmp 73), _, _, _, none⟩) (v := ?_) rfl (by kernel_rfl) (by kernel_rfl) (by kernel_rfl) (fun _ _ _ h => h) (Or.inl ⟨by rfl, ?_⟩) (by assumption) ?_
      rotate_left
      · intro wq hSw
        obtain ⟨e0, e1, e2, e3, e4, e5, e6, e7, e8⟩ := hSw
        go_simp
        with_reducible rfl
      simp only [Act.put, List.setIfInBounds_toArray, List.set_cons_zero, List.set_cons_succ]
      refine wpAnyH_take (i := 3) (oi := ⟨some 75, .move (.tmp 8), _, _, _, none⟩) (v := ?_) rfl (by kernel_rfl) (by kernel_rfl) (by kernel_rfl) (fun _ _ _ h => h) (Or.inl ⟨by rfl, ?_⟩) (by assumption) ?_
      rotate_left
      · intro wq hSw
        obtain ⟨e0, e1, e2, e3, e4, e5, e6, e7, e8⟩ := hSw
        go_simp
        with_reducible rfl
      simp only [Act.put, List.setIfInBounds_toArray, List.set_cons_zero, List.set_cons_succ]
      refine wpAnyH_take (i := 4) (oi := ⟨some 76, .indexAddr 26 (.tmp 74) (.tmp 75), _, _, _, none⟩) (v := ?_) rfl (by kernel_rfl) (by kernel_rfl) (by kernel_rfl) (fun _ _ _ h => h) (Or.inl ⟨by rfl, ?_⟩) (by assumption) ?_
      rotate_left
      · intro wq hSw
        obtain ⟨e0, e1, e2, e3, e4, e5, e6, e7, e8⟩ := hSw
        go_simp
        with_reducible rfl
      simp only [Act.put, List.setIfInBounds_toArray, List.set_cons_zero, List.set_cons_succ]
      refine wpAnyH_take (i := 5) (oi := ⟨some 77, .load 28 (.tmp 76), _, _, _, none⟩) (v := ?_) rfl (by kernel_rfl) (by kernel_rfl) (by kernel_rfl) (fun _ _ _ h => h) (Or.inl ⟨by rfl, ?_⟩) (by assumption) ?_
      rotate_left
      · intro wq hSw
        obtain ⟨e0, e1, e2, e3, e4, e5, e6, e7, e8⟩ := hSw
        go_simp
        with_reducible rfl
      simp only [Act.put, List.setIfInBounds_toArray, List.set_cons_zero, List.set_cons_succ]
      refine wpAnyH_take (i := 6) (oi := ⟨some 78, .move (.tmp 1), _, _, _, none⟩) (v := ?_) rfl (by kernel_rfl) (by kernel_rfl) (by kernel_rfl) (fun _ _ _ h => h) (Or.inl ⟨by rfl, ?_⟩) (by assumption) ?_
      rotate_left
      · intro wq hSw
        obtain ⟨e0, e1, e2, e3, e4, e5, e6, e7, e8⟩ := hSw
        go_simp
        with_reducible rfl
      simp only [Act.put, List.setIfInBounds_toArray, List.set_cons_zero, List.set_cons_succ]
      refine wpAnyH_take (i := 7) (oi := ⟨some 79, .move (.tmp 9), _, _, _, none⟩) (v := ?_) rfl (by kernel_rfl) (by kernel_rfl) (by kernel_rfl) (fun _ _ _ h => h) (Or.inl ⟨by rfl, ?_⟩) (by assumption) ?_
      rotate_left
      · intro wq hSw
        obtain ⟨e0, e1, e2, e3, e4, e5, e6, e7, e8⟩ := hSw
        go_simp
        with_reducible rfl
      simp only [Act.put, List.setIfInBounds_toArray, List.set_cons_zero, List.set_cons_succ]
      refine wpAnyH_ready (rs := [8]) (by kernel_rfl) (by simp) ?_
      refine AllReadyH.cons (o := ⟨some 80, .binOp .rem 3 (.tmp 78) (.tmp 79) 3, _, _, _, none⟩) rfl (fun K hK => ?_) ?_
      · go_simp
        refine hK.out _ _ (hS0) (fun hHeld => ?_)
        clear hK K
        refine wpAnyH_ready (rs := [9]) (by kernel_rfl) (by simp) ?_
        refine AllReadyH.cons (o := ⟨some 81, .call { callee := .value (.func 24), args := #[.tmp 77, .tmp 80], argTypes := #[28, 3] }, _, _, _, none⟩) rfl (fun K hK => ?_) ?_
        · go_simp
          refine (hN2 _ ((Below.refl _ _).drew)).mono ?_
          rintro e w1 ⟨⟨q2, c2, us2, rfl, hl2, hs2, hb2⟩, b1⟩
          simp only
          have R1 : Below wa.heap.size wa w1 := below_undrewM b1
          simp only [drew_heap] at hs2
          have B1 := hide R1
          have s1 := R1.size
          have HLL2 := hide hl2
          have HS2 := hide hs2
          have HB2 := hide hb2
          have S1 := hSk _ R1
          have SA := fun o : Obj => hSk _ (below_sub R1 ((Below.refl w1.heap.size w1).alloc (Nat.le_refl _) o))
          clear hl2 hs2 hb2 b1 R1
          refine hK.out _ _ (S1) (fun hHeld => ?_)
          clear hK K
          refine wpAnyH_ready (rs := [10]) (by kernel_rfl) (by simp) ?_
          refine AllReadyH.cons (o := ⟨some 82, .buildSlice 31 1 #[(0, .tmp 81)], _, _, _, none⟩) rfl (fun K hK => ?_) ?_
          · go_simp
            refine hK.out _ _ (SA _) (fun hHeld => ?_)
            clear hK K
            refine wpAnyH_ready (rs := [11]) (by kernel_rfl) (by simp) ?_
            refine AllReadyH.cons (o := ⟨some 83, .call { callee := .builtin .append, args := #[.tmp 72, .tmp 82], argTypes := #[31, 31] }, _, _, _, none⟩) rfl (fun K hK => ?_) ?_
            · have bY := (Below.refl w1.heap.size w1).alloc (Nat.le_refl _) (.cells #[.slice q2 d2.length c2] 45)
              have hOA := ((unhide HOa).below (unhide B1)).below bY
              refine step_appG rowQ (by rfl) (.tmp 72) (.tmp 82) (by rfl) X.heap.size qm cm us ⟨w1.heap.size, 0, none⟩ 1 [(q2, d2.length, c2)] R 1 (R + 1) (unhide HUS) rfl rfl (by rfl) (by rfl) hOA (q_src (q2, d2.length, c2) rfl) hkm hkb (by simp only [size_al]; omega) ?_
              intro q3 c3 w3 ho3 hb3 hg3 hor3
              have S3 := hSg _ _ (below_sub (unhide B1) bY) hg3
              have HO3 := hide ho3
              have HF3 := hide ((((((unhide HFa).below (unhide B1)).below bY).and ((slFrom_off (unhide HS2) sXa (fun b e => by have := (unhide HL2 b e).2; omega)).below bY)).step hg3 hor3).imp (fun x h => (show PartsAt w0 (ps ++ [d2]) (us ++ [(q2, d2.length, c2)]) x from parts_snoc (unhide HPS) h.1 rfl (unhide HLL2) h.2 (unhide HB2))))
              have HB3 := hide ((below_sub (unhide HBa) (below_sub (unhide B1) bY)).trans hb3)
              clear ho3 hb3 hg3 hor3 bY hOA
              refine hK.out _ _ (S3) (fun hHeld => ?_)
              clear hK K
              refine wpAnyH_take (i := 12) (oi := ⟨some 7, .assign (.tmp 83), _, _, _, none⟩) (v := ?_) rfl (by kernel_rfl) (by kernel_rfl) (by kernel_rfl) (fun _ _ _ h => h) (Or.inl ⟨by rfl, ?_⟩) (by assumption) ?_
              rotate_left
              · intro wq hSw
                obtain ⟨e0, e1, e2, e3, e4, e5, e6, e7, e8⟩ := hSw
                go_simp
                with_reducible rfl
              simp only [Act.put, List.setIfInBounds_toArray, List.set_cons_zero, List.set_cons_succ]
              refine wpAnyH_done (by kernel_rfl) ?_ _
              go_wp2
              exact ⟨⟨m, (m : Int) - 1, F, d1, ps ++ [d2], R + 1, q3, c3, us ++ [(q2, d2.length, c2)], by omega, by omega, hF2, rfl, by go_num, rfl, by rw [List.length_append, unhide HPL]; rfl, by rw [List.length_append, unhide HUS]; rfl, unhide HE3, by rw [unhide HEQ]; simp, HO3, HF3, unhide HB3⟩, by simp [intOf]⟩
            exact AllReadyH.nil
          exact AllReadyH.nil
        exact AllReadyH.nil
      exact AllReadyH.nil
    | zero =>
      obtain rfl : K = -1 := by omega
      have hp0 := (List.getElem?_eq_some_iff.1 hp).1
      simp only [List.take_zero, cjProd, List.length_singleton] at hp hp0
      rw [show p = 0 by omega] at hp
      simp only [List.getElem?_cons_zero, Option.some.injEq] at hp
      subst hp
      clear hp0
      rw [List.nil_append] at hcd
      obtain rfl : R = kids.length := by omega
      have HPA := hide (show PartsAt w0 ps us wr from unhide HF wr (Nat.le_refl _) (fun _ _ _ _ _ => rfl))
      have HCD := hide hcd
      have HUS := hide hus
      have HPS := hide hps
      obtain ⟨V, hV⟩ : ∃ V, V = wr := ⟨_, rfl⟩
      subst hV
      clear hbel hcd hus hps t0 t1 t2 t3 t4 t5 t6 t7 hK hmR
      go_wp2
      go_loopw [10, 11] (fun ov kv wr => ∃ (m : Nat) (K : Int) (qo : Option Addr) (co n : Nat) (lv : List Lv) (cl : List Lt), m ≤ kids.length ∧ K + 1 = m ∧ kv = .int .i64 K ∧ ov = .slice qo n co ∧ lv.length = n ∧ cl.length = n ∧ c = cl ++ (ps.take m).reverse.flatten ∧ Hid (OwnK encL 47 7 V.heap.size wr qo co lv) ∧ Hid (LitsB w0 lv cl) ∧ Below V.heap.size V wr) (fun _ kv _ => (intOf kv + 1).toNat)
      case atStart => exact ⟨kids.length, (kids.length : Int) - 1, none, 0, 0, [], [], by omega, by omega, by go_num, rfl, rfl, rfl, by rw [List.nil_append, ← unhide HPS, List.take_length]; exact unhide HCD, hide (OwnK.nil _ _), hide (fun j u l h => by simp at h), Below.refl _ _⟩
      case round =>
        obtain ⟨m1, K, qo, co, n, lv, cl, hmR, hK, rfl, rfl, hlv, hcl, hcc, HOL, HLB, hbel⟩ := hrel
        have HBV := hide hbel
        cases m1 with
        | succ m =>
          obtain rfl : K = (m : Int) := by omega
          obtain ⟨⟨q2, n2, c2⟩, hu, hud⟩ := get_at (l := us) (k := m) (by have := unhide HUS; omega)
          obtain ⟨ls, hls, hld⟩ := get_at (l := ps) (k := m) (by have := unhide HPS; omega)
          clear hud hld
          obtain ⟨hn2, ks, hkl, hsl, hlb⟩ := unhide HPA m _ ls hu hls
          simp only at hn2 hsl
          obtain ⟨b, off, hq, hbb, hct⟩ := (unhide HO).ls.2.2.2.at hu
          subst hq
          have h0 := hct 0 (by omega)
          rw [Nat.mul_one, Nat.add_zero] at h0
          have g0 : wr.cell? ⟨b, off + m, none⟩ = some (.slice q2 n2 c2) := (hbel.cell (p := ⟨b, off + m, none⟩) hbb).trans h0
          have ki0 : (0 : Int) ≤ (m : Int) := by omega
          have ki1 : (m : Int) < (kids.length : Int) := by omega
          rw [take_snoc_of hls, List.reverse_append, List.flatten_append] at hcc
          simp only [List.reverse_singleton, List.flatten_cons, List.flatten_nil, List.append_nil] at hcc
          have hbd : n + n2 ≤ 400000000 := by
            have h1 := congrArg List.length hcc
            simp only [List.length_append] at h1
            have h2 := unhide HLC
            omega
          have hkm : n + n2 ≤ maxLen := by unfold maxLen; omega
          have hkb : (n + n2) * 96 ≤ 140737488355328 := by omega
          have HLV := hide hlv
          have HKL := hide (show ks.length = n2 by omega)
          have HSL := hide (hsl.below hbel)
          have HAP := hide ((unhide HLB).app hlb (by omega))
          have HCC := hide hcc
          have HCL := hide (show (cl ++ ls).length = n + n2 by rw [List.length_append]; omega)
          have sV := hbel.size
          clear hbel hcc hlv hcl hkl hsl hlb h0 hct hu hls hbd hn2 hK
          go_wp2_with (at_builtin; refine wpList_app rowL rfl _ _ rfl V.heap.size qo co lv q2 c2 ks n n2 (n + n2) (unhide HLV) (unhide HKL) rfl rfl rfl (unhide HOL) (unhide HSL).src hkm hkb sV ?_; intro q3 c3 w3 ho3 hb3 _ hg3; have HO3 := hide ho3; have HB3 := hide hb3; clear ho3 hb3 hg3)
          go_roundw
          case rel =>
            exact ⟨m, (m : Int) - 1, q3, c3, n + n2, lv ++ ks, cl ++ ls, by omega, by omega, by go_num, rfl, by rw [List.length_append, unhide HLV, unhide HKL], unhide HCL, by rw [List.append_assoc]; exact unhide HCC, HO3, HAP, (unhide HBV).trans (unhide HB3)⟩
          case measure => simp [intOf]
        | zero =>
          obtain rfl : K = -1 := by omega
          simp only [List.take_zero, List.reverse_nil, List.flatten_nil, List.append_nil] at hcc
          subst hcc
          subst hcl
          have HLV := hide hlv
          clear hbel hlv hK
          go_wp2
          go_ret
          have s1 := (unhide HWX).size
          have s2 := (unhide HB).size
          exact ⟨⟨_, _, lv, rfl, unhide HLV, ⟨(unhide HOL).ls, fun a h => by have := (unhide HOL).from a h; omega⟩, unhide HLB⟩, below_sub (unhide HWX) (below_sub (unhide HB) (unhide HBV))⟩
end Go.Proofs.Ytmpdfgebhpfhhaa
