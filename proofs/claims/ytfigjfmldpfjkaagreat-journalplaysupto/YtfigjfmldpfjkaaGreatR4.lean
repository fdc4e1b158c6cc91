/- The reference's disk: put, drop. -/
import Derived.Test.YtfigjfmldpfjkaaGreatZab
namespace Go.Proofs.YtfigjfmldpfjkaaGreat
open Go.RowKit Go.Sort Go.Shelf

theorem Tryz.info105 : (Tryz.prog.info? 105).map (fun i => (i.zero, i.size, i.bytes)) = some (some (.agg #[.string ⟨#[]⟩, .slice none 0 0, .int .i64 0]), 3, 48) := by kernel_rfl
theorem rowF : RowOf encF 28 105 3 48 where
  und := Tryz.underlying28
  info := by
    obtain ⟨i0, hi, hz0, hz1, hz2⟩ := info_parts Tryz.info105
    exact ⟨i0, _, hi, hz0, hz1, hz2, rfl⟩
  pos := by decide
  one := one_flat (fun x c hc => by
    have h : c = 0 ∨ c = 1 ∨ c = 2 := by omega
    rcases h with rfl | rfl | rfl <;> rfl) (by decide)
def valF (x : Rf) : Array Value := #[.string x.nm, .slice x.p x.bs.length x.c, .int .i64 (x.la : Int)]
theorem srcF {w : World} {b : Nat} {x : Rf} (h : w.heap[b]? = some (.cells #[.string x.nm, .slice x.p x.bs.length x.c, .int .i64 (x.la : Int)] 105 (0, 0))) : SrcK encF 3 w (some ⟨b, 0, none⟩) 1 [x] := by
  refine LsOf.src (fun e => by cases e) (LsOf.one (Array.getElem?_eq_some_iff.1 h).1 fun c hc => ?_)
  have h1 : c = 0 ∨ c = 1 ∨ c = 2 := by omega
  unfold World.cell?
  rw [h]
  rcases h1 with rfl | rfl | rfl <;> rfl
theorem cellsF3 {w : World} {g : Nat} {a b c : Value} {t : TypeId} (h : w.heap[g]? = some (.cells #[a, b, c] t (0, 0))) : w.cell? ⟨g, 0, none⟩ = some a ∧ w.cell? ⟨g, 1, none⟩ = some b ∧ w.cell? ⟨g, 2, none⟩ = some c := by
  unfold World.cell?; rw [h]; exact ⟨rfl, rfl, rfl⟩
/-- What put and drop end in: another row of files in the box. -/
theorem RIn.rerow {P : Nat → Prop} {w w1 W : World} {g c c' N : Nat} {r : Rk} {q q' : Option Addr} {l : List Rf} (h : RIn P w g r q c) (b1 : Below w.heap.size w w1) (bW : Below w1.heap.size w1 W) (ho : OwnK encF 105 3 w1.heap.size W q' c' l) (hN : l.length = N)
    (hf : ∀ x ∈ l, SlIn encB 1 P w x.p x.c x.bs) : RIn (fun i => P i ∨ w.heap.size ≤ i) (W.setCell ⟨g, 0, none⟩ (.slice q' N c')) g { r with fs := l } q' c' ∧ w.grownBy (W.setCell ⟨g, 0, none⟩ (.slice q' N c')) (some g) := by
  subst hN
  have hgl := h.glt
  have b2 := below_sub b1 bW
  have hbox : W.heap[g]? = _ := (b2.block g hgl).trans h.box
  have hg : W.grownBy (W.setCell ⟨g, 0, none⟩ (.slice q' l.length c')) (some g) := grown_set _ _ _ _
  have hk : ∀ i, i ≠ g → i < W.heap.size → (W.setCell ⟨g, 0, none⟩ (.slice q' l.length c')).heap[i]? = W.heap[i]? := fun i hi hl => hg.block i hl (by intro e; injection e with e; exact hi e)
  refine ⟨⟨fun hp => ?_, h.small, heap_setCell_same W g 0 _ 30 (.slice q' l.length c') hbox, ?_, fun x hx => ?_⟩, ?_⟩
  · rcases hp with hp | hp
    · exact h.pg hp
    · omega
  · have h2 := ho.sl.kept hg.size (fun i hi hl => hk i (by intro e; subst e; have := b1.size; omega) hl)
    exact h2.mono fun i hi _ => Or.inr (Nat.le_trans b1.size hi)
  · have h2 := (hf x hx).kept b2.size (fun i _ hl => b2.block i hl)
    have h3 := h2.kept hg.size (fun i hi hl => hk i (by intro e; subst e; exact h.pg hi) hl)
    exact h3.mono fun i hi _ => Or.inl hi
  · refine ⟨hg.os.trans b2.os, hg.tape.trans b2.tape, hg.output.trans b2.output, Nat.le_trans b2.size hg.size, fun i hi hne => ?_⟩
    exact (hg.block i (Nat.lt_of_lt_of_le hi b2.size) hne).trans (b2.block i hi)
set_option maxHeartbeats 4000000 in
set_option maxRecDepth 100000 in
theorem rput_any {P : Nat → Prop} {w : World} {g c : Nat} {r : Rk} {q : Option Addr} (h : RIn P w g r q c) (f : Rf) (hf : SlIn encB 1 P w f.p f.c f.bs) (hl : r.fs.length ≤ 1000000) (hs : ∀ x ∈ r.fs, x.nm.size ≤ 32) :
    Calls Tryz.prog 62 #[.pointer (some ⟨g, 0, none⟩), .agg #[.string f.nm, .slice f.p f.bs.length f.c, .int .i64 (f.la : Int)]] w fun e w' => (∃ v, e = .returned v) ∧ (∃ q' c', RIn (fun i => P i ∨ w.heap.size ≤ i) w' g { r with fs := putR r.fs f } q' c') ∧ w.grownBy w' (some g) := by
  have mixed : Tryz.prog.follows .mixedOrders = true := by kernel_rfl
  have e56 : ∀ args w, (callFunc 96 args).run Tryz.prog w = .ok (.enter 96 args) w := enters_of Tryz.func96 (by kernel_rfl) rfl
  obtain ⟨w1, hw1⟩ : ∃ w1, w.alloc (.cells #[.string f.nm, .slice f.p f.bs.length f.c, .int .i64 (f.la : Int)] 105) = w1 := ⟨_, rfl⟩
  have b1 : Below w.heap.size w w1 := by rw [← hw1]; exact (Below.refl _ _).alloc (Nat.le_refl _) _
  have hsz1 : w1.heap.size = w.heap.size + 1 := by rw [← hw1]; simp
  have k1 : w1.heap[w.heap.size]? = some (.cells #[.string f.nm, .slice f.p f.bs.length f.c, .int .i64 (f.la : Int)] 105 (0, 0)) := by rw [← hw1]; exact heap_alloc_new _ _
  have hbox : ∀ W, Below w1.heap.size w1 W → W.heap[g]? = some (.cells #[.slice q r.fs.length c, .int .i64 (r.acts : Int), .bool r.off, .int .i64 (r.named : Int), .int .i64 r.part] 30 (0, 0)) := fun W bW => ((below_sub b1 bW).block g h.glt).trans h.box
  have hfc : ∀ W, Below w1.heap.size w1 W → W.cell? ⟨w.heap.size, 0, none⟩ = some (.string f.nm) ∧ W.cell? ⟨w.heap.size, 1, none⟩ = some (.slice f.p f.bs.length f.c) ∧ W.cell? ⟨w.heap.size, 2, none⟩ = some (.int .i64 (f.la : Int)) := fun W bW => cellsF3 ((bW.block _ (by omega)).trans k1)
  have hrw : ∀ W, Below w1.heap.size w1 W → SlOf encF 3 W q c r.fs := fun W bW => h.row.1.below (below_sub b1 bW)
  have hend : ∀ (W : World) (q' : Option Addr) (c' N : Nat), Below w1.heap.size w1 W → OwnK encF 105 3 w1.heap.size W q' c' (putR r.fs f) → (putR r.fs f).length = N → _ := fun W q' c' N bW ho hN => h.rerow b1 bW ho hN (fun x hx => by
    rcases mem_put.1 hx with rfl | ⟨hx, _⟩
    · exact hf
    · exact h.file x hx)
  have htx : ∀ (W : World) (x : Rf), x ∈ r.fs → Calls Tryz.prog 96 #[.string x.nm, .string f.nm] W fun e w' => e = .returned (.int .i64 (cmpS x.nm.data.toList f.nm.data.toList)) ∧ Below W.heap.size W w' := fun W x hx => texts_any x.nm f.nm W (by have := hs x hx; unfold maxLen; omega)
  have HBX := hide hbox
  have HFC := hide hfc
  have HRW := hide hrw
  have HEND := hide hend
  have HTX := hide htx
  have hgl := h.glt
  have cg : ∀ W, Below w1.heap.size w1 W → W.cell? ⟨g, 0, none⟩ = some (.slice q r.fs.length c) ∧ W.frozen? ⟨g, 0, none⟩ = false := fun W bW => ⟨(cells5 (hbox W bW)).1.1, frozen_free (hbox W bW)⟩
  have HCG := hide cg
  have hsz2 : w.heap.size < w1.heap.size := by omega
  clear h hf hs b1 k1 hbox hfc hrw hend htx cg
  go_enter Tryz.func62, Tryz.ntmps62
  go_wp2
  go_loopw [4, 5, 6] (fun v4 v5 v6 wr => ∃ (k : Nat) (q2 : Option Addr) (cap : Nat) (L : List Rf) (bb : Bool), k ≤ r.fs.length ∧ v6 = .int .i64 (k : Int) ∧ v4 = .slice q2 L.length cap ∧ v5 = .bool bb ∧ Hid ((r.fs.take k).foldl (stp f) ([], false) = (L, bb)) ∧ Hid (OwnK encF 105 3 w1.heap.size wr q2 cap L) ∧ Hid (Below w1.heap.size w1 wr)) (fun _ _ v6 _ => r.fs.length - (intOf v6).toNat)
  case atStart => exact ⟨0, none, 0, [], false, Nat.zero_le _, rfl, rfl, rfl, hide rfl, hide (OwnK.nil _ _), hide (Below.refl _ _)⟩
  case round =>
    obtain ⟨k, q2, cap, L, bb, hk, rfl, rfl, rfl, HL, HO, HB⟩ := hrel
    have hlen : L.length ≤ r.fs.length + 1 := by have := len_take_fold r.fs f k; rw [unhide HL] at this; exact this
    have hsr : w1.heap.size ≤ wr.heap.size := (unhide HB).size
    obtain ⟨f0, f1, f2⟩ := unhide HFC wr (unhide HB)
    obtain ⟨cg0, fg0⟩ := unhide HCG wr (unhide HB)
    by_cases hlt : k < r.fs.length
    · obtain ⟨x, hx, _⟩ := get_at hlt
      have hT := fun W => unhide HTX W x (List.mem_of_getElem? hx)
      have hst := fold_snoc (f := f) hx
      rw [unhide HL] at hst
      have ki0 : (0 : Int) ≤ (k : Int) := by omega
      have ki1 : (k : Int) < (r.fs.length : Int) := by omega
      obtain ⟨b, off, hq, _, d0, d1, d2⟩ := fileAt (unhide HRW wr (unhide HB)) hx
      have hxa : ∀ W, Below w1.heap.size w1 W → W.cell? ⟨b, off + k * 3, none⟩ = some (.string x.nm) ∧ W.cell? ⟨b, off + k * 3 + 1, none⟩ = some (.slice x.p x.bs.length x.c) ∧ W.cell? ⟨b, off + k * 3 + 2, none⟩ = some (.int .i64 (x.la : Int)) := fun W bW => by
        obtain ⟨b', off', hq', _, e0, e1, e2⟩ := fileAt (unhide HRW W bW) hx
        rw [hq] at hq'
        cases hq'
        exact ⟨e0, e1, e2⟩
      have HXA := hide hxa
      subst hq
      have g0 := cell_regrown cg0
      have g1 := cell_regrown d0
      have g2 := cell_regrown f0
      clear hx d1 d2 hxa
      by_cases hc1 : ltN x.nm f.nm
      · rw [stp_lt _ hc1] at hst
        have HST := hide hst
        simp only [cmpS_lt hc1] at hT
        clear hst hc1
        go_wp2
        refine wp_region_quiet_below (by assumption) (by kernel_rfl) ?_
        repeat (go_big_quiet_step (first | (go_at_fn 96; refine Calls.regrown_of (hT _))))
        refine wpQuiet_nil ?_
        intro wQ hw'
        obtain ⟨⟨dq, osq⟩, hw''⟩ := hw'
        have bQ := below_regrown wr dq osq
        rw [← hw''] at bQ
        clear hw''
        have HBQ := hide ((unhide HB).trans (bQ.mono hsr))
        have HOQ := hide ((unhide HO).below bQ)
        have hsQ : w1.heap.size ≤ wQ.heap.size := Nat.le_trans hsr bQ.size
        obtain ⟨f0, f1, f2⟩ := unhide HFC wQ (unhide HBQ)
        obtain ⟨cg0, fg0⟩ := unhide HCG wQ (unhide HBQ)
        obtain ⟨x0, x1, x2⟩ := unhide HXA wQ (unhide HBQ)
        clear bQ
        go_wp2_with (at_builtin; refine wpList_app rowF rfl _ _ rfl w1.heap.size q2 cap L (some ⟨_, 0, none⟩) 1 [x] L.length 1 (L.length + 1) rfl rfl rfl rfl rfl ((unhide HOQ).below ((Below.refl _ _).alloc (Nat.le_refl _) _)) (srcF (heap_alloc_new _ _)) (by unfold maxLen; omega) (by omega) (by simp; omega) ?_; intro q3 c3 w3 o_w3 b_w3 _ _; have O3 := hide o_w3; have B3 := hide (((unhide HBQ).alloc (unhide HBQ).size _).trans b_w3);  clear o_w3 b_w3)
        go_roundw
        case rel => exact ⟨k + 1, q3, c3, L ++ [x], bb, by omega, by go_num, by simp, rfl, HST, O3, B3⟩
        case measure => simp [intOf]; omega
      · by_cases hc2 : x.nm = f.nm
        · simp only [cmpS_eq hc2] at hT
          cases bb with
          | true =>
            rw [stp_eq1 hc2 rfl] at hst
            have HST := hide hst
            clear hst hc1 hc2
            go_wp2
            refine wp_region_quiet_below (by assumption) (by kernel_rfl) ?_
            repeat (go_big_quiet_step (first | (go_at_fn 96; refine Calls.regrown_of (hT _))))
            refine wpQuiet_nil ?_
            intro wQ hw'
            obtain ⟨⟨dq, osq⟩, hw''⟩ := hw'
            have bQ := below_regrown wr dq osq
            rw [← hw''] at bQ
            clear hw''
            have HBQ := hide ((unhide HB).trans (bQ.mono hsr))
            have HOQ := hide ((unhide HO).below bQ)
            have hsQ : w1.heap.size ≤ wQ.heap.size := Nat.le_trans hsr bQ.size
            obtain ⟨f0, f1, f2⟩ := unhide HFC wQ (unhide HBQ)
            obtain ⟨cg0, fg0⟩ := unhide HCG wQ (unhide HBQ)
            obtain ⟨x0, x1, x2⟩ := unhide HXA wQ (unhide HBQ)
            clear bQ
            go_wp2
            go_roundw
            case rel => exact ⟨k + 1, q2, cap, L, true, by omega, by go_num, rfl, rfl, HST, HOQ, HBQ⟩
            case measure => simp [intOf]; omega
          | false =>
            rw [stp_eq0 hc2 rfl] at hst
            have HST := hide hst
            clear hst hc1 hc2
            go_wp2
            refine wp_region_quiet_below (by assumption) (by kernel_rfl) ?_
            repeat (go_big_quiet_step (first | (go_at_fn 96; refine Calls.regrown_of (hT _))))
            refine wpQuiet_nil ?_
            intro wQ hw'
            obtain ⟨⟨dq, osq⟩, hw''⟩ := hw'
            have bQ := below_regrown wr dq osq
            rw [← hw''] at bQ
            clear hw''
            have HBQ := hide ((unhide HB).trans (bQ.mono hsr))
            have HOQ := hide ((unhide HO).below bQ)
            have hsQ : w1.heap.size ≤ wQ.heap.size := Nat.le_trans hsr bQ.size
            obtain ⟨f0, f1, f2⟩ := unhide HFC wQ (unhide HBQ)
            obtain ⟨cg0, fg0⟩ := unhide HCG wQ (unhide HBQ)
            obtain ⟨x0, x1, x2⟩ := unhide HXA wQ (unhide HBQ)
            clear bQ
            go_wp2_with (at_builtin; refine wpList_app rowF rfl _ _ rfl w1.heap.size q2 cap L (some ⟨_, 0, none⟩) 1 [f] L.length 1 (L.length + 1) rfl rfl rfl rfl rfl ((unhide HOQ).below ((Below.refl _ _).alloc (Nat.le_refl _) _)) (srcF (heap_alloc_new _ _)) (by unfold maxLen; omega) (by omega) (by simp; omega) ?_; intro q3 c3 w3 o_w3 b_w3 _ _; have O3 := hide o_w3; have B3 := hide (((unhide HBQ).alloc (unhide HBQ).size _).trans b_w3);  clear o_w3 b_w3)
            go_roundw
            case rel => exact ⟨k + 1, q3, c3, L ++ [f], true, by omega, by go_num, by simp, rfl, HST, O3, B3⟩
            case measure => simp [intOf]; omega
        · simp only [cmpS_gt hc1 hc2] at hT
          cases bb with
          | true =>
            rw [stp_gt1 hc1 hc2 rfl] at hst
            have HST := hide hst
            clear hst hc1 hc2
            go_wp2
            refine wp_region_quiet_below (by assumption) (by kernel_rfl) ?_
            repeat (go_big_quiet_step (first | (go_at_fn 96; refine Calls.regrown_of (hT _))))
            refine wpQuiet_nil ?_
            intro wQ hw'
            obtain ⟨⟨dq, osq⟩, hw''⟩ := hw'
            have bQ := below_regrown wr dq osq
            rw [← hw''] at bQ
            clear hw''
            have HBQ := hide ((unhide HB).trans (bQ.mono hsr))
            have HOQ := hide ((unhide HO).below bQ)
            have hsQ : w1.heap.size ≤ wQ.heap.size := Nat.le_trans hsr bQ.size
            obtain ⟨f0, f1, f2⟩ := unhide HFC wQ (unhide HBQ)
            obtain ⟨cg0, fg0⟩ := unhide HCG wQ (unhide HBQ)
            obtain ⟨x0, x1, x2⟩ := unhide HXA wQ (unhide HBQ)
            clear bQ
            go_wp2_with (at_builtin; refine wpList_app rowF rfl _ _ rfl w1.heap.size q2 cap L (some ⟨_, 0, none⟩) 1 [x] L.length 1 (L.length + 1) rfl rfl rfl rfl rfl ((unhide HOQ).below ((Below.refl _ _).alloc (Nat.le_refl _) _)) (srcF (heap_alloc_new _ _)) (by unfold maxLen; omega) (by omega) (by simp; omega) ?_; intro q3 c3 w3 o_w3 b_w3 _ _; have O3 := hide o_w3; have B3 := hide (((unhide HBQ).alloc (unhide HBQ).size _).trans b_w3);  clear o_w3 b_w3)
            go_roundw
            case rel => exact ⟨k + 1, q3, c3, L ++ [x], true, by omega, by go_num, by simp, rfl, HST, O3, B3⟩
            case measure => simp [intOf]; omega
          | false =>
            rw [stp_gt0 hc1 hc2 rfl] at hst
            have HST := hide hst
            clear hst hc1 hc2
            go_wp2
            refine wp_region_quiet_below (by assumption) (by kernel_rfl) ?_
            repeat (go_big_quiet_step (first | (go_at_fn 96; refine Calls.regrown_of (hT _))))
            refine wpQuiet_nil ?_
            intro wQ hw'
            obtain ⟨⟨dq, osq⟩, hw''⟩ := hw'
            have bQ := below_regrown wr dq osq
            rw [← hw''] at bQ
            clear hw''
            have HBQ := hide ((unhide HB).trans (bQ.mono hsr))
            have HOQ := hide ((unhide HO).below bQ)
            have hsQ : w1.heap.size ≤ wQ.heap.size := Nat.le_trans hsr bQ.size
            obtain ⟨f0, f1, f2⟩ := unhide HFC wQ (unhide HBQ)
            obtain ⟨cg0, fg0⟩ := unhide HCG wQ (unhide HBQ)
            obtain ⟨x0, x1, x2⟩ := unhide HXA wQ (unhide HBQ)
            clear bQ
            go_wp2_with (first | (at_builtin; refine wpList_app rowF rfl _ _ rfl w1.heap.size q3 c3 (L ++ [f]) (some ⟨_, 0, none⟩) 1 [x] (L.length + 1) 1 (L.length + 2) (by simp) rfl rfl rfl rfl ((unhide O3).below ((Below.refl _ _).alloc (Nat.le_refl _) _)) (srcF (heap_alloc_new _ _)) (by unfold maxLen; omega) (by omega) (by simp; omega) ?_; intro q4 c4 w4 o_w4 b_w4 _ _; have O4 := hide o_w4; have B4 := hide (((unhide B3).alloc (unhide B3).size _).trans b_w4);  clear o_w4 b_w4) | (at_builtin; refine wpList_app rowF rfl _ _ rfl w1.heap.size q2 cap L (some ⟨_, 0, none⟩) 1 [f] L.length 1 (L.length + 1) rfl rfl rfl rfl rfl ((unhide HOQ).below ((Below.refl _ _).alloc (Nat.le_refl _) _)) (srcF (heap_alloc_new _ _)) (by unfold maxLen; omega) (by omega) (by simp; omega) ?_; intro q3 c3 w3 o_w3 b_w3 _ _; have O3 := hide o_w3; have B3 := hide (((unhide HBQ).alloc (unhide HBQ).size _).trans b_w3); obtain ⟨f0, f1, f2⟩ := unhide HFC w3 (unhide B3); obtain ⟨cg0, fg0⟩ := unhide HCG w3 (unhide B3); obtain ⟨x0, x1, x2⟩ := unhide HXA w3 (unhide B3); have hs3 : w1.heap.size ≤ w3.heap.size := (unhide B3).size; clear o_w3 b_w3))
            go_roundw
            case rel => exact ⟨k + 1, q4, c4, L ++ [f] ++ [x], true, by omega, by go_num, by simp, rfl, HST, O4, B4⟩
            case measure => simp [intOf]; omega
    · obtain rfl : k = r.fs.length := by omega
      have ki1 : ¬ (r.fs.length : Int) < (r.fs.length : Int) := by omega
      have hfin : putR r.fs f = fin f (L, bb) := by unfold putR; rw [← unhide HL, List.take_length]
      cases bb with
      | true =>
        have hfin2 : putR r.fs f = L := hfin
        have HF2 := hide hfin2
        clear hfin hfin2
        go_wp2
        go_end0
        obtain ⟨R1, R2⟩ := unhide HEND wr q2 cap L.length (unhide HB) (by rw [unhide HF2]; exact unhide HO) (by rw [unhide HF2])
        exact ⟨⟨_, rfl⟩, ⟨q2, cap, R1⟩, R2⟩
      | false =>
        have hfin2 : putR r.fs f = L ++ [f] := hfin
        have HF2 := hide hfin2
        clear hfin hfin2
        go_wp2_with (at_builtin; refine wpList_app rowF rfl _ _ rfl w1.heap.size q2 cap L (some ⟨_, 0, none⟩) 1 [f] L.length 1 (L.length + 1) rfl rfl rfl rfl rfl ((unhide HO).below ((Below.refl _ _).alloc (Nat.le_refl _) _)) (srcF (heap_alloc_new _ _)) (by unfold maxLen; omega) (by omega) (by simp; omega) ?_; intro q3 c3 w3 o_w3 b_w3 _ _; have O3 := hide o_w3; have B3 := hide (((unhide HB).alloc (unhide HB).size _).trans b_w3); obtain ⟨cg0, fg0⟩ := unhide HCG w3 (unhide B3); clear o_w3 b_w3)
        go_end0
        obtain ⟨R1, R2⟩ := unhide HEND w3 q3 c3 (L.length + 1) (unhide B3) (by rw [unhide HF2]; exact unhide O3) (by rw [unhide HF2]; simp)
        exact ⟨⟨_, rfl⟩, ⟨q3, c3, R1⟩, R2⟩
end Go.Proofs.YtfigjfmldpfjkaaGreat
