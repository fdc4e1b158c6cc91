/- The law ConjTrue: an expression is true just where one of its conjunctions holds. -/
import Derived.Test.YtimklglliffpcaaGreatQCjFix
import Derived.Test.YtimklglliffpcaaGreatQZSm
import Derived.Test.YtimklglliffpcaaGreatQZEv
namespace Go.Proofs.YtimklglliffpcaaGreat
open Go.RowKit Go.Sort Go.Shelf

def holdsCd (ev : List Pr) (d : Cd) : Bool := holdsC d.never d.pos d.neg ev
/-- The predicates of what All answers are small. -/
theorem meetGo_gd : ∀ (qs : List Pd) (o : Option Pd), (∀ m, o = some m → Gd m) → Small qs → ∀ m, meetGo o qs = some m → Gd m
  | [], o, h, _, m, hm => h m (by cases o <;> exact hm)
  | q :: qs, o, h, hs, m, hm => by
    cases o with
    | none => rw [meetGo_none] at hm; cases hm
    | some k =>
      cases hn : normD q with
      | none => simp only [meetGo, hn] at hm; cases hm
      | some n =>
        simp only [meetGo, hn] at hm
        split at hm
        · exact meetGo_gd qs _ (fun r hr => gd_both (h k rfl) (gd_norm (hs q (by simp)) hn) hr) (fun r hr => hs r (by simp [hr])) m hm
        · cases hm
theorem meetD_gd {l : List Pd} (hs : Small l) : ∀ m, meetD l = some m → Gd m := fun m hm => by
  cases l with
  | nil => cases hm
  | cons p ps => exact meetGo_gd ps _ (fun r hr => gd_norm (hs p (by simp)) hr) (fun r hr => hs r (by simp [hr])) m hm
theorem gd_small {p : Pd} (h : Gd p) : p.small := ⟨h.1.2.2.1, h.1.2.2.2.1⟩
theorem posGo_small {ls : List Lt} (hs : SmallL ls) : ∀ (ns : List ByteArray) (d : List Pd), posGo ls ns = some d → Small d ∧ d.length = ns.length
  | [], d, h => by cases h; exact ⟨(fun p hp => by simp at hp), rfl⟩
  | a :: ns, d, h => by
    simp only [posGo] at h
    cases hm : meetD (grpD ls a) with
    | none => rw [hm] at h; cases h
    | some m =>
      rw [hm] at h
      simp only at h
      obtain ⟨d', hd, rfl⟩ := Option.map_eq_some_iff.1 h
      obtain ⟨i1, i2⟩ := posGo_small hs ns d' hd
      refine ⟨fun p hp => ?_, by simp [i2]⟩
      rcases List.mem_cons.1 hp with rfl | hp
      · exact gd_small (meetD_gd (grp_small hs a) _ hm)
      · exact i1 p hp
theorem cptD_len (l : List Pd) : (cptD l).length ≤ l.length := by
  have : ∀ (l acc : List Pd), (l.foldl stepD acc).length ≤ acc.length + l.length := by
    intro l
    induction l with
    | nil => intro acc; simp
    | cons x r ih =>
      intro acc
      rw [List.foldl_cons]
      refine Nat.le_trans (ih _) ?_
      have : (stepD acc x).length ≤ acc.length + 1 := by unfold stepD; split <;> simp
      simp only [List.length_cons]
      omega
  simpa [cptD] using this l []
/-- What Make makes is no greater than what it is given. -/
theorem make_small {ls : List Lt} (hs : SmallL ls) : Small (makeD ls).pos ∧ Small (makeD ls).neg ∧ (makeD ls).pos.length ≤ ls.length ∧ (makeD ls).neg.length ≤ ls.length := by
  have hz : Small [] ∧ Small [] ∧ ([] : List Pd).length ≤ ls.length ∧ ([] : List Pd).length ≤ ls.length := ⟨(fun p hp => by simp at hp), (fun p hp => by simp at hp), by simp, by simp⟩
  unfold makeD
  split
  · unfold makeC
    cases hp : posD ls with
    | none => exact hz
    | some d =>
      obtain ⟨h1, h2⟩ := posGo_small hs _ d hp
      refine ⟨h1, fun p hp => negL_small hs p (negD_mem.1 hp), ?_, ?_⟩
      · show d.length ≤ _
        rw [h2]
        have := (onceS_spec ((posL ls).map Pd.attr)).2.2
        rw [List.length_map] at this
        exact Nat.le_trans this (posL_len ls)
      · show (negD ls).length ≤ _
        unfold negD
        refine Nat.le_trans (cptD_len _) ?_
        rw [(srtD_perm (negL ls)).length_eq]
        exact negL_len ls
  · exact hz
theorem all_small {t : Nd} {m : Int} (hwt : wtN t ≤ 50000000) : ∀ d ∈ allC t m, Small d.pos ∧ Small d.neg ∧ d.pos.length ≤ 100000000 ∧ d.neg.length ≤ 100000000 := fun d hd => by
  obtain ⟨c, hc, rfl⟩ := List.mem_map.1 hd
  obtain ⟨h1, h2⟩ := exp_small hwt c hc
  obtain ⟨a1, a2, a3, a4⟩ := make_small h2
  exact ⟨a1, a2, by omega, by omega⟩
theorem exp_eval {t : Nd} {m : Int} (h0 : expE t m = 0) : chkN t = true := by
  unfold expE at h0
  cases hk : chkN t with
  | true => rfl
  | false =>
    simp only [WidthE, hk] at h0
    simp at h0
set_option maxHeartbeats 8000000 in
set_option maxRecDepth 100000 in
theorem conjTrue_law (t : Nd) (v : Nv) (m : Int) (q : Option Addr) (c : Nat) (evs : List (List Pr)) (w : World) (hin : NdIn w v t) (he : EvsOf w q c evs) (hwt : wtN t ≤ 50000000) (hle : evs.length ≤ 1000000000) (hl3 : ∀ ev ∈ evs, ev.length ≤ 1000000000) :
    Calls Tryz.prog 8 #[.agg #[.int .i64 v.kind, .string v.attr, .slice v.qi v.ni v.ci, .slice v.qw v.nw v.cw, .int .i64 v.lo, .int .i64 v.hi, .int .i64 v.op, .slice v.qk v.nk v.ck], .int .i64 m, .slice q evs.length c] w fun e w' => e = .returned (.bool true) ∧ Below w.heap.size w w' := by
  obtain ⟨X, HX⟩ : ∃ X, w.alloc (.cells #[.int .i64 v.kind, .string v.attr, .slice v.qi v.ni v.ci, .slice v.qw v.nw v.cw, .int .i64 v.lo, .int .i64 v.hi, .int .i64 v.op, .slice v.qk v.nk v.ck] 56) = X := ⟨_, rfl⟩
  have bX : Below w.heap.size w X := by rw [← HX]; exact (Below.refl _ _).alloc (Nat.le_refl _) _
  have x8 : X.heap[w.heap.size]? = some (.cells #[.int .i64 v.kind, .string v.attr, .slice v.qi v.ni v.ci, .slice v.qw v.nw v.cw, .int .i64 v.lo, .int .i64 v.hi, .int .i64 v.op, .slice v.qk v.nk v.ck] 56 (0, 0)) := by rw [← HX]; exact box_nw _ _
  have hF := fixed_any X
  have HA := hide (fun (W : World) (hW : Below X.heap.size X W) => all_any t m v W (hin.keep (below_sub bX hW)) hwt)
  have HEV := hide (fun (W : World) (hW : Below X.heap.size X W) (qe : Option Addr) (ce : Nat) (ev : List Pr) (hv : SlOf encP 4 W qe ce ev) (hl : ev.length ≤ 1000000000) => eval_any t v qe ce ev W (hin.keep (below_sub bX hW)) hv (by omega) (by omega))
  have HE := hide (he.below bX)
  have HL3 := hide hl3
  have HSM := hide (all_small (m := m) hwt)
  have HXB := hide x8
  have BX := hide bX
  have i9 : (evs.length : Int) ≤ 1000000000 := by omega
  have hal : (allC t m).length ≤ 64 := by unfold allC; rw [List.length_map]; exact exp_len t m
  have HSEM := hide (fun ev (h0 : expE t m = 0) => all_sem t m ev h0)
  have HCHK := hide (fun (h0 : expE t m = 0) => exp_eval h0)
  have HNIL := hide (show ¬ expE t m = 0 → allC t m = [] from fun h0 => by unfold allC expC; rw [if_neg h0]; rfl)
  obtain ⟨er, her⟩ : ∃ er, expE t m = er := ⟨_, rfl⟩
  obtain ⟨ds, hds⟩ : ∃ ds, allC t m = ds := ⟨_, rfl⟩
  rw [her, hds] at HA
  rw [her] at HSEM HCHK HNIL
  rw [hds] at HSEM HNIL HSM hal
  obtain ⟨a0, a1, a2, a3, a4, a5, a6, a7⟩ := of8' x8
  clear hin he hl3 bX x8 her hds
  go_enter Tryz.func8, Tryz.ntmps8
  go_upto_region 3 with (go_at_call 11; refine hF.mono ?_; rintro e w1 ⟨rfl, b1⟩; have B1 := hide b1; clear b1)
  clear a0 a1 a2 a3 a4 a5 a6 a7 hF
  obtain ⟨a0, a1, a2, a3, a4, a5, a6, a7⟩ := of8' (blk_on (unhide HXB) (unhide B1))
  have hA := unhide HA w1 (unhide B1)
  go_upto_region 4 with (go_at_call 33; refine hA.mono ?_; rintro e w2 ⟨⟨q2, c2, rfl, h2⟩, b2⟩; have B2 := hide (below_sub (unhide B1) b2); have C2 := hide h2; clear b2 h2)
  clear a0 a1 a2 a3 a4 a5 a6 a7 hA HX
  by_cases h0 : er = 0
  · subst h0
    obtain ⟨nd, hnd⟩ : ∃ nd, ds.length = nd := ⟨_, rfl⟩
    rw [hnd] at hal ⊢
    have HND := hide hnd
    have i8 : (nd : Int) ≤ 64 := by omega
    clear hnd
    go_wp2
    go_loopw [29] (fun iv wr => ∃ k : Nat, k ≤ evs.length ∧ iv = .int .i64 k ∧ Hid (Below w2.heap.size w2 wr)) (fun iv _ => evs.length - (intOf iv).toNat)
    case atStart => exact ⟨0, Nat.zero_le _, rfl, hide (Below.refl _ _)⟩
    case round =>
      obtain ⟨k, hk, rfl, HB⟩ := hrel
      by_cases hlt : k < evs.length
      · obtain ⟨ev, hx, _⟩ := get_at hlt
        obtain ⟨b, off, qe, ce, hq, hbb, hev, g0⟩ := ((unhide HE).below (below_sub (unhide B2) (unhide HB))).at hx
        subst hq
        have ki0 : (0 : Int) ≤ (k : Int) := by omega
        have ki1 : (k : Int) < (evs.length : Int) := by omega
        have HEL := hide (unhide HL3 ev (List.mem_of_getElem? hx))
        have HEVS := hide hev
        have HBB := hide hbb
        have hsem := unhide HSEM ev (by simp)
        obtain ⟨wo, hwo⟩ : ∃ wo, wo = wr := ⟨_, rfl⟩
        subst hwo
        clear hx hev hbb
        go_wp2
        go_loopw [11, 35] (fun av iv wr => ∃ j : Nat, j ≤ nd ∧ iv = .int .i64 j ∧ av = .bool ((ds.take j).any (holdsCd ev)) ∧ Hid (Below wo.heap.size wo wr)) (fun _ iv _ => nd - (intOf iv).toNat)
        case atStart => exact ⟨0, Nat.zero_le _, rfl, by simp, hide (Below.refl _ _)⟩
        case round =>
          obtain ⟨j, hj, rfl, rfl, HBJ⟩ := hrel
          by_cases hjl : j < nd
          · obtain ⟨d, hd, _⟩ := get_at (l := ds) (k := j) (by rw [unhide HND]; exact hjl)
            obtain ⟨bc, oc, x, hqc, hbc, hcd, c0, c1, c2', _⟩ : ∃ (b off : Nat) (x : Cv), q2 = some ⟨b, off, none⟩ ∧ b < wr.heap.size ∧ CdIn wr x d ∧ wr.cell? ⟨b, off + j * 3, none⟩ = some (.bool x.never) ∧ wr.cell? ⟨b, off + j * 3 + 1, none⟩ = some (.slice x.qp x.np x.cp) ∧ wr.cell? ⟨b, off + j * 3 + 2, none⟩ = some (.slice x.qn x.nn x.cn) ∧ True := by
              obtain ⟨b, off, x, y1, y2, y3, y4, y5, y6⟩ := ((unhide C2).below (below_sub (unhide HB) (unhide HBJ))).at hd
              exact ⟨b, off, x, y1, y2, y3, y4, y5, y6, trivial⟩
            subst hqc
            have hj0 : (0 : Int) ≤ (j : Int) := by omega
            have hj1 : (j : Int) < (nd : Int) := by omega
            obtain ⟨nv, hnv⟩ : ∃ nv, x.never = nv := ⟨_, rfl⟩
            rw [hnv] at c0
            obtain ⟨Z, HZ⟩ : ∃ Z, wr.alloc (.cells #[.bool nv, .slice x.qp x.np x.cp, .slice x.qn x.nn x.cn] 39) = Z := ⟨_, rfl⟩
            have bZ : Below wr.heap.size wr Z := by rw [← HZ]; exact (Below.refl _ _).alloc (Nat.le_refl _) _
            have zk : Z.heap[wr.heap.size]? = some (.cells #[.bool nv, .slice x.qp x.np x.cp, .slice x.qn x.nn x.cn] 39 (0, 0)) := by rw [← HZ]; exact box_nw _ _
            obtain ⟨z0, z1, z2⟩ := of3C zk
            obtain ⟨s1, s2, s3, s4⟩ := unhide HSM d (List.mem_of_getElem? hd)
            have hcz := hcd.below bZ
            have hH := cholds_any x.never x.qp x.qn x.cp x.cn d.pos d.neg qe ce ev Z hcz.2.2.2.1 hcz.2.2.2.2 s1 s2 s3 s4 ((unhide HEVS).below (below_sub (unhide HBJ) bZ)) (by have := unhide HEL; omega)
            have hk1 := hcd.2.1
            have hk2 := hcd.2.2.1
            rw [← hk1, ← hk2, hnv] at hH
            have hHD : holdsC nv d.pos d.neg ev = holdsCd ev d := by unfold holdsCd; rw [← hcd.1, hnv]
            rw [hHD] at hH
            have hT : (ds.take (j + 1)).any (holdsCd ev) = ((ds.take j).any (holdsCd ev) || holdsCd ev d) := by rw [take_snoc_of hd, List.any_append]; simp
            obtain ⟨D, hD⟩ : ∃ D, holdsCd ev d = D := ⟨_, rfl⟩
            rw [hD] at hH hT
            obtain ⟨G, hG⟩ : ∃ G, (ds.take j).any (holdsCd ev) = G := ⟨_, rfl⟩
            rw [hG] at hT
            have BZ := hide bZ
            have HT := hide hT
            rw [hG]
            clear hd hcd zk bZ hcz s1 s2 s3 s4 hk1 hk2 hHD hD hG hT hnv
            go_upto_region 13 with (fail)
            clear HZ c0 c1 c2'
            cases G with
            | true =>
              go_wp2
              go_roundw
              case rel => exact ⟨j + 1, by omega, by go_num, by rw [unhide HT]; rfl, hide (below_sub (unhide HBJ) (unhide BZ))⟩
              case measure => simp [intOf]; omega
            | false =>
              go_wp2_with (go_at_call 31; refine hH.mono ?_; rintro e w5 ⟨rfl, b5⟩; have B5 := hide b5; clear b5)
              go_roundw
              case rel => exact ⟨j + 1, by omega, by go_num, by rw [unhide HT]; rfl, hide (below_sub (unhide HBJ) (below_sub (unhide BZ) (unhide B5)))⟩
              case measure => simp [intOf]; omega
          · have hj1 : ¬ (j : Int) < (nd : Int) := by omega
            have e1 : ds.take j = ds := List.take_of_length_le (by rw [unhide HND]; omega)
            rw [e1]
            have hT : ds.any (holdsCd ev) = truN ev t := hsem
            have hEv := unhide HEV wr (below_sub (unhide B2) (below_sub (unhide HB) (unhide HBJ))) qe ce ev ((unhide HEVS).below (unhide HBJ)) (unhide HEL)
            have hEN : evalN ev t = ds.any (holdsCd ev) := by unfold evalN; rw [unhide HCHK (by simp), hT]; rfl
            rw [hEN] at hEv
            obtain ⟨R, hR⟩ : ∃ R, ds.any (holdsCd ev) = R := ⟨_, rfl⟩
            rw [hR] at hEv ⊢
            obtain ⟨a0, a1, a2, a3, a4, a5, a6, a7⟩ := of8' (blk_on (unhide HXB) (below_sub (unhide B2) (below_sub (unhide HB) (unhide HBJ))))
            unfold Nv.val at hEv
            clear e1 hT hEN hR hsem
            cases R with
            | true =>
              go_wp2_with (go_at_call 39; refine hEv.mono ?_; rintro e w6 ⟨rfl, b6⟩; have B6 := hide b6; clear b6)
              go_roundw
              case rel => exact ⟨k + 1, by omega, by go_num, hide (below_sub (unhide HB) (below_sub (unhide HBJ) (unhide B6)))⟩
              case measure => simp [intOf]; omega
            | false =>
              go_wp2_with (go_at_call 39; refine hEv.mono ?_; rintro e w6 ⟨rfl, b6⟩; have B6 := hide b6; clear b6)
              go_roundw
              case rel => exact ⟨k + 1, by omega, by go_num, hide (below_sub (unhide HB) (below_sub (unhide HBJ) (unhide B6)))⟩
              case measure => simp [intOf]; omega
      · have ki1 : ¬ (k : Int) < (evs.length : Int) := by omega
        go_wp2
        go_ret
        exact ⟨rfl, below_sub (unhide BX) (below_sub (unhide B2) (unhide HB))⟩
  · have hn := unhide HNIL h0
    subst hn
    have hb0 : (er != 0) = true := by simp [h0]
    clear h0
    go_wp2
    go_ret
    exact ⟨rfl, below_sub (unhide BX) (unhide B2)⟩
end Go.Proofs.YtimklglliffpcaaGreat
