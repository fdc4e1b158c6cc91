/- conj.All: the walk. -/
import Derived.Test.YtimklglliffpcaaGreatQZaj
namespace Go.Proofs.YtimklglliffpcaaGreat
open Go.RowKit Go.Sort Go.Shelf

theorem flat_lenC (l : List Cv) : (flatK encC 3 l.toArray).toList.length = l.length * 3 := by simp [flatK]
theorem flat_oneC (x : Cv) : (flatK encC 3 [x].toArray).toList = [.bool x.never, .slice x.qp x.np x.cp, .slice x.qn x.nn x.cn] := by simp [flatK, List.range_succ, encC]
theorem putC {B g cap : Nat} {w : World} {d : List Cv} (h : OwnK encC 39 3 B w (some ⟨g, 0, none⟩) cap d) {k : Nat} (hk : k < d.length) (x : Cv) :
    OwnK encC 39 3 B (((w.setCell ⟨g, k * 3, none⟩ (.bool x.never)).setCell ⟨g, k * 3 + 1, none⟩ (.slice x.qp x.np x.cp)).setCell ⟨g, k * 3 + 2, none⟩ (.slice x.qn x.nn x.cn)) (some ⟨g, 0, none⟩) cap (d.set k x) := by
  obtain ⟨e1, e2⟩ := split_at hk x
  unfold OwnK at *
  have h2 := (((h.stored (k * 3) (.bool x.never)).1.stored (k * 3 + 1) (.slice x.qp x.np x.cp)).1.stored (k * 3 + 2) (.slice x.qn x.nn x.cn)).1
  rw [List.length_set]
  have hl : (flatK encC 3 (d.take k).toArray).toList.length = k * 3 := by rw [flat_lenC, List.length_take]; congr 1; omega
  have hf : (flatK encC 3 (d.set k x).toArray).toList = ((((flatK encC 3 d.toArray).toList.set (k * 3) (.bool x.never)).set (k * 3 + 1) (.slice x.qp x.np x.cp)).set (k * 3 + 2) (.slice x.qn x.nn x.cn)) := by
    rw [e2]
    conv => rhs; rw [e1]
    simp only [flat_app encC 3 (by decide), flat_oneC, List.append_assoc]
    simp [hl]
  rw [hf]
  exact h2
theorem atCv {B g cap : Nat} {w : World} {d : List Cv} (h : OwnK encC 39 3 B w (some ⟨g, 0, none⟩) cap d) {k : Nat} {x : Cv} (hk : d[k]? = some x) : w.cell? ⟨g, k * 3, none⟩ = some (.bool x.never) ∧ w.cell? ⟨g, k * 3 + 1, none⟩ = some (.slice x.qp x.np x.cp) ∧ w.cell? ⟨g, k * 3 + 2, none⟩ = some (.slice x.qn x.nn x.cn) := by
  obtain ⟨b, off, hq, _, hc⟩ := h.ls.2.2.2.at hk
  obtain ⟨rfl, rfl⟩ : g = b ∧ 0 = off := by injection hq with hq; injection hq with h1 h2 _; exact ⟨h1, h2⟩
  rw [Nat.zero_add] at hc
  exact ⟨hc 0 (by omega), hc 1 (by omega), hc 2 (by omega)⟩
theorem Tryz.info39 : (Tryz.prog.info? 39).map (fun i => (i.zero, i.size, i.bytes)) = some (some (.agg #[.bool false, .slice none 0 0, .slice none 0 0]), 3, 56) := by kernel_rfl
def zeroC : Cv := ⟨false, none, 0, 0, none, 0, 0⟩
theorem made_zero (n : Nat) : (madeCells (Value.agg #[.bool false, .slice none 0 0, .slice none 0 0]).cells (n * 3)).toList = (flatK encC 3 (List.replicate n zeroC).toArray).toList := by
  apply List.ext_getElem?
  intro j
  by_cases hj : j < n * 3
  · have h3 : j % 3 = 0 ∨ j % 3 = 1 ∨ j % 3 = 2 := by omega
    have hq : j / 3 < n := by omega
    rw [show j = j / 3 * 3 + j % 3 by omega, flat_at (enc := encC) (k := 3) (x := zeroC) (by rw [List.getElem?_replicate, if_pos hq]) (j % 3) (by omega), ← show j = j / 3 * 3 + j % 3 by omega]
    rw [Array.getElem?_toList]
    unfold madeCells
    rw [Array.getElem?_eq_getElem (by simpa [Value.cells] using hj)]
    simp only [Array.getElem_map, Array.getElem_range, Value.cells]
    rcases h3 with e | e | e <;> simp [e, encC, zeroC]
  · rw [List.getElem?_eq_none (by rw [Array.length_toList, size_madeCells]; omega), List.getElem?_eq_none (by rw [flat_lenC]; simp; omega)]
theorem makeCs (n : Nat) (h : n * 56 ≤ 140737488355328) : ∃ cur : Array Value, cur.toList = (flatK encC 3 (List.replicate n zeroC).toArray).toList ∧ ∀ W : World, (Instr.makeSlice 57 (.int .i64 (n : Int)) (.int .i64 (n : Int))).run Tryz.prog W = .ok (.slice (some ⟨W.heap.size, 0, none⟩) n n) (W.alloc (.cells cur 39)) := by
  obtain ⟨i0, hi, hz0, hz1, hz2⟩ := info_parts Tryz.info39
  refine ⟨madeCells (Value.agg #[.bool false, .slice none 0 0, .slice none 0 0]).cells (n * i0.size), by rw [hz1, made_zero], fun W => ?_⟩
  have := run_make (P := Tryz.prog) W 57 39 i0 _ Tryz.underlying57 hi hz0 .i64 .i64 (n : Int) (n : Int) (by omega) (by omega) (by rw [hz2]; omega) (by omega)
  simpa only [Int.toNat_natCast] using this
theorem own_zero {w : World} {n : Nat} {cur : Array Value} (hn : n ≤ maxLen) (hs : cur.toList = (flatK encC 3 (List.replicate n zeroC).toArray).toList) : OwnK encC 39 3 w.heap.size (w.alloc (.cells cur 39)) (some ⟨w.heap.size, 0, none⟩) n (List.replicate n zeroC) := by
  refine ⟨by rw [flat_lenC], Or.inr ⟨w.heap.size, n, cur, ?_, Nat.le_refl _, World.alloc_heap_new _ _, by simp, hn, ?_, ?_⟩⟩
  · simp
  · rw [← Array.length_toList, hs, flat_lenC]; simp
  · rw [hs, List.take_of_length_le (by rw [flat_lenC]; simp)]
/-- A conjunction in memory. -/
theorem geC {B g cap : Nat} {w : World} {d : List Cv} (h : OwnK encC 39 3 B w (some ⟨g, 0, none⟩) cap d) : B ≤ g ∧ g < w.heap.size := World.ownsRow.lt h g rfl
def CdIn (w : World) (v : Cv) (d : Cd) : Prop := v.never = d.never ∧ v.np = d.pos.length ∧ v.nn = d.neg.length ∧ PdsOf w v.qp v.cp d.pos ∧ PdsOf w v.qn v.cn d.neg
theorem CdNew.in {B : Nat} {w : World} {v : Cv} {d : Cd} (h : CdNew B w v d) : CdIn w v d := ⟨h.1, h.2.1.1.symm, h.2.2.1.symm, h.2.1.preds, h.2.2.preds⟩
theorem CdIn.below {w w' : World} {v : Cv} {d : Cd} (h : CdIn w v d) (hb : Below w.heap.size w w') : CdIn w' v d := ⟨h.1, h.2.1, h.2.2.1, h.2.2.2.1.below hb, h.2.2.2.2.below hb⟩
def CdsOf (w : World) (q : Option Addr) (c : Nat) (ds : List Cd) : Prop := ∃ vs : List Cv, SlOf encC 3 w q c vs ∧ vs.length = ds.length ∧ ∀ (j : Nat) (v : Cv) (d : Cd), vs[j]? = some v → ds[j]? = some d → CdIn w v d
theorem CdsOf.below {w w' : World} {q : Option Addr} {c : Nat} {ds : List Cd} (h : CdsOf w q c ds) (hb : Below w.heap.size w w') : CdsOf w' q c ds := by
  obtain ⟨vs, h1, h2, h3⟩ := h
  exact ⟨vs, h1.below hb, h2, fun j v d hj hd => (h3 j v d hj hd).below hb⟩
theorem CdsOf.at {w : World} {q : Option Addr} {c : Nat} {ds : List Cd} {j : Nat} {d : Cd} (h : CdsOf w q c ds) (hj : ds[j]? = some d) : ∃ b off v, q = some ⟨b, off, none⟩ ∧ b < w.heap.size ∧ CdIn w v d ∧ w.cell? ⟨b, off + j * 3, none⟩ = some (.bool v.never) ∧ w.cell? ⟨b, off + j * 3 + 1, none⟩ = some (.slice v.qp v.np v.cp) ∧ w.cell? ⟨b, off + j * 3 + 2, none⟩ = some (.slice v.qn v.nn v.cn) := by
  obtain ⟨vs, h1, h2, h3⟩ := h
  have hl : j < ds.length := (List.getElem?_eq_some_iff.1 hj).1
  obtain ⟨v, hv, _⟩ := get_at (l := vs) (k := j) (by omega)
  obtain ⟨b, off, hq, hb, hc⟩ := h1.2.2.2.at hv
  exact ⟨b, off, v, hq, hb, h3 j v d hv hj, hc 0 (by omega), hc 1 (by omega), hc 2 (by omega)⟩
def allC (t : Nd) (m : Int) : List Cd := (expC t m).map makeD
theorem exp_len (t : Nd) (m : Int) : (expC t m).length ≤ 64 := by
  unfold expC
  split
  · next h =>
    unfold expE at h
    by_cases h0 : WidthE t m = 0
    · rw [if_pos h0] at h
      by_cases h1 : WidthA t m > m
      · rw [if_pos h1] at h; cases h
      · obtain ⟨_, h2, h3, _, h5, _⟩ := exp_ok h0 h1
        omega
    · rw [if_neg h0] at h; exact absurd h h0
  · simp
set_option maxHeartbeats 4000000 in
set_option maxRecDepth 100000 in
/-- conj.All. -/
theorem all_any (t : Nd) (m : Int) (v : Nv) (w : World) (hin : NdIn w v t) (hwt : wtN t ≤ 50000000) :
    Calls Tryz.prog 33 #[.agg #[.int .i64 v.kind, .string v.attr, .slice v.qi v.ni v.ci, .slice v.qw v.nw v.cw, .int .i64 v.lo, .int .i64 v.hi, .int .i64 v.op, .slice v.qk v.nk v.ck], .int .i64 m] w fun e w' => (∃ q c, e = .returned (.tuple #[.slice q (allC t m).length c, .int .i64 (expE t m)]) ∧ CdsOf w' q c (allC t m)) ∧ Below w.heap.size w w' := by
  obtain ⟨X, HX⟩ : ∃ X, w.alloc (.cells #[.int .i64 v.kind, .string v.attr, .slice v.qi v.ni v.ci, .slice v.qw v.nw v.cw, .int .i64 v.lo, .int .i64 v.hi, .int .i64 v.op, .slice v.qk v.nk v.ck] 56) = X := ⟨_, rfl⟩
  have bX : Below w.heap.size w X := by rw [← HX]; exact (Below.refl _ _).alloc (Nat.le_refl _) _
  have x8 : X.heap[w.heap.size]? = some (.cells #[.int .i64 v.kind, .string v.attr, .slice v.qi v.ni v.ci, .slice v.qw v.nw v.cw, .int .i64 v.lo, .int .i64 v.hi, .int .i64 v.op, .slice v.qk v.nk v.ck] 56 (0, 0)) := by rw [← HX]; exact box_nw _ _
  obtain ⟨c0, c1, c2, c3, c4, c5, c6, c7⟩ := of8' x8
  have hE := expand_any t m v X (hin.keep bX) (by omega)
  unfold Nv.val at hE
  have BX := hide bX
  have hsm := exp_small (m := m) hwt
  have hok := exp_okL (t := t) (m := m)
  have hel := exp_len t m
  have HAL := hide (show allC t m = (expC t m).map makeD from rfl)
  obtain ⟨cs, hcs⟩ : ∃ cs, expC t m = cs := ⟨_, rfl⟩
  have HZ0 := hide (show ¬ expE t m = 0 → allC t m = [] from fun h0 => by unfold allC expC; rw [if_neg h0]; rfl)
  rw [hcs] at hE hsm hok hel HAL
  obtain ⟨er, her⟩ : ∃ er, expE t m = er := ⟨_, rfl⟩
  rw [her] at hE HZ0 ⊢
  have HSM := hide hsm
  have HOK := hide hok
  clear hin bX x8 hsm hok hcs her
  by_cases h0 : er = 0
  · subst h0
    go_enter Tryz.func33, Tryz.ntmps33
    go_upto_region 4 with (go_at_call 84; refine hE.mono ?_; rintro e w1 ⟨⟨q1, cc1, rfl, hC1⟩, b1⟩; have B1 := hide b1; have C1 := hide hC1; clear b1 hC1)
    obtain ⟨n, hn⟩ : ∃ n, cs.length = n := ⟨_, rfl⟩
    rw [hn] at hel ⊢
    obtain ⟨cur, hcu, hmk⟩ := makeCs n (by omega)
    obtain ⟨Y, HY⟩ : ∃ Y, w1.alloc (.cells cur 39) = Y := ⟨_, rfl⟩
    have bY : Below w1.heap.size w1 Y := by rw [← HY]; exact (Below.refl _ _).alloc (Nat.le_refl _) _
    have HO := hide (show OwnK encC 39 3 w1.heap.size Y (some ⟨w1.heap.size, 0, none⟩) n (List.replicate n zeroC) by rw [← HY]; exact own_zero (by unfold maxLen; omega) hcu)
    have HN := hide hn
    have BY := hide bY
    have i9 : (n : Int) ≤ 64 := by omega
    clear hcu bY hn c0 c1 c2 c3 c4 c5 c6 c7 hE
    go_wp2
    go_loopw [25] (fun iv wr => ∃ (k : Nat) (vs : List Cv), k ≤ n ∧ iv = .int .i64 k ∧ Hid (vs.length = n ∧ OwnK encC 39 3 w1.heap.size wr (some ⟨w1.heap.size, 0, none⟩) n vs ∧ ∀ (j : Nat) (x : Cv) (l : List Lt), j < k → vs[j]? = some x → cs[j]? = some l → CdNew (w1.heap.size + 1) wr x (makeD l)) ∧ Hid (Below w1.heap.size w1 wr)) (fun iv _ => n - (intOf iv).toNat)
    case atStart => exact ⟨0, List.replicate n zeroC, Nat.zero_le _, rfl, hide ⟨by simp, unhide HO, fun j x l hj => absurd hj (by omega)⟩, BY⟩
    case round =>
      obtain ⟨k, vs, hk, rfl, HR, HB⟩ := hrel
      by_cases hlt : k < n
      · obtain ⟨l, hx, _⟩ := get_at (l := cs) (k := k) (by rw [unhide HN]; exact hlt)
        obtain ⟨us, u1, u2, u3⟩ := unhide C1
        obtain ⟨u, hu, _⟩ := get_at (l := us) (k := k) (by rw [u1, unhide HN]; exact hlt)
        have hG := u3 k u l hu hx
        obtain ⟨b, off, hq, hbb, hcc⟩ := u2.ls.2.2.2.at hu
        subst hq
        have g0 : wr.cell? ⟨b, off + k, none⟩ = some (.slice u.1 u.2.1 u.2.2) := by
          have := ((unhide HB).cell (p := ⟨b, off + k * 1 + 0, none⟩) hbb).trans (hcc 0 (by omega))
          rw [Nat.mul_one, Nat.add_zero] at this
          exact this
        obtain ⟨v1, v2, v3⟩ := unhide HR
        obtain ⟨z, hz, _⟩ := get_at (l := vs) (k := k) (by omega)
        have ki0 : (0 : Int) ≤ (k : Int) := by omega
        have ki1 : (k : Int) < (n : Int) := by omega
        obtain ⟨a1, a2⟩ := unhide HSM l (List.mem_of_getElem? hx)
        have hM := make_any u.1 u.2.2 l wr ((hG.lits).below (unhide HB)) a2 (ok_fit (unhide HOK l (List.mem_of_getElem? hx))) a1
        rw [hG.1] at hM
        have HX := hide hx
        have hwr : w1.heap.size < wr.heap.size := (geC v2).2
        have HV2 := hide v2
        have HV3 := hide v3
        have HV1 := hide v1
        have HZ := hide hz
        have hcell : ∀ W, Below wr.heap.size wr W → (W.cell? ⟨w1.heap.size, k * 3, none⟩ = some (.bool z.never) ∧ W.cell? ⟨w1.heap.size, k * 3 + 1, none⟩ = some (.slice z.qp z.np z.cp) ∧ W.cell? ⟨w1.heap.size, k * 3 + 2, none⟩ = some (.slice z.qn z.nn z.cn)) ∧ ∀ o, W.frozen? ⟨w1.heap.size, o, none⟩ = false := fun W hW => ⟨atCv ((unhide HV2).below hW) (unhide HZ), fun o => World.ownsRow.frozenAt ((unhide HV2).below hW) o⟩
        have HC := hide hcell
        clear hG hcc u3 u2 u1 hu v1 v2 v3 hx hcell hz
        go_wp2_with (go_at_call 24; refine hM.mono ?_; rintro e w2 ⟨⟨y, rfl, hy⟩, b2⟩; obtain ⟨⟨y0, y1, y2⟩, yf⟩ := unhide HC w2 b2; have B2 := hide b2; have YY := hide hy; clear b2 hy)
        go_roundw
        case rel =>
          have hg9 : w1.heap.size < w1.heap.size + 1 := Nat.lt_succ_self _
          refine ⟨k + 1, vs.set k y, by omega, by go_num, hide ⟨by rw [List.length_set]; exact unhide HV1, putC ((unhide HV2).below (unhide B2)) (by rw [unhide HV1]; exact hlt) y, fun j x l2 hj hx2 hl2 => ?_⟩, hide ((((below_sub (unhide HB) (unhide B2)).setCell (p := ⟨w1.heap.size, k * 3, none⟩) (Nat.le_refl _) _).setCell (p := ⟨w1.heap.size, k * 3 + 1, none⟩) (Nat.le_refl _) _).setCell (p := ⟨w1.heap.size, k * 3 + 2, none⟩) (Nat.le_refl _) _)⟩
          have hfin : CdNew (w1.heap.size + 1) w2 x (makeD l2) := by
            by_cases e : j = k
            · subst e
              rw [List.getElem?_set_self (by rw [unhide HV1]; exact hlt)] at hx2
              cases hx2
              rw [unhide HX] at hl2
              cases hl2
              exact (unhide YY).mono hwr
            · rw [List.getElem?_set_ne (fun e2 => e e2.symm)] at hx2
              exact (unhide HV3 j x l2 (by omega) hx2 hl2).below (unhide B2)
          exact ((hfin.setB hg9 _ _).setB hg9 _ _).setB hg9 _ _
        case measure => simp [intOf]; omega
      · have ki1 : ¬ (k : Int) < (n : Int) := by omega
        go_wp2
        refine bodyPost_ret (v := .tuple #[.slice (some ⟨w1.heap.size, 0, none⟩) n n, .int .i64 0]) (by simp [results, Tryz.results33, go_sem, *]) rfl ?_
        obtain ⟨v1, v2, v3⟩ := unhide HR
        have hlen : (allC t m).length = n := by rw [unhide HAL, List.length_map, unhide HN]
        refine ⟨⟨some ⟨w1.heap.size, 0, none⟩, n, by rw [hlen], ⟨vs, v2.ls, by rw [v1, hlen], fun j x d hj hd => ?_⟩⟩, (unhide BX).trans (((unhide B1).trans ((unhide HB).mono (unhide B1).size)).mono (unhide BX).size)⟩
        rw [unhide HAL, List.getElem?_map] at hd
        obtain ⟨l, hl2, rfl⟩ := Option.map_eq_some_iff.1 hd
        exact (v3 j x l (by have := (List.getElem?_eq_some_iff.1 hj).1; omega) hj hl2).in
  · have hb0 : (er != 0) = true := by simp [h0]
    have HNIL := hide (unhide HZ0 h0)
    clear h0
    go_enter Tryz.func33, Tryz.ntmps33
    go_upto_region 2 with (go_at_call 84; refine hE.mono ?_; rintro e w1 ⟨⟨q1, cc1, rfl, hC1⟩, b1⟩; have B1 := hide b1; clear b1 hC1)
    go_wp2
    refine bodyPost_ret (v := .tuple #[.slice none 0 0, .int .i64 er]) (by simp [results, Tryz.results33, go_sem, *]) rfl ?_
    rw [unhide HNIL]
    exact ⟨⟨none, 0, rfl, [], SlOf.none _, rfl, fun j v d h => by simp at h⟩, below_sub (unhide BX) (unhide B1)⟩
end Go.Proofs.YtimklglliffpcaaGreat
