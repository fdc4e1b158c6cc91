/- world.do: one call on the first list: Add, Drop, Has, New. -/
import Derived.Test.YtelgpmjafaopmaaDoEff
import Derived.Deep.CutBlock
namespace Go.Proofs.Ytelgpmjafaopmaa
open Go.RowKit Go.Sort Go.Shelf

set_option maxHeartbeats 8000000 in
set_option maxRecDepth 100000 in
theorem do_fA (B G : Nat) (s : St) (w : World) (h : Wd B w G s) (kind : Int) (pp : Option Addr) (cp : Nat) (ps : List Pt) (pi : Option Addr) (ci : Nat) (is : List Int) (id : Int) (hkd : (kind = 1 ∨ kind = 2 ∨ kind = 3 ∨ kind = 4))
    (hps : ∀ W, Below B w W → SlOf encP 2 W pp cp ps) (his : ∀ W, Below B w W → SlOf encI 1 W pi ci is) (hml : s.m = s.l) (hkk : s.kr = s.kc) (hB : B ≤ w.heap.size) (hp : ps.length ≤ 1048576) (hi : is.length ≤ 1048576) (hlc : s.lc.length ≤ 1000000000000) (hll : ∀ b, (s.l b).length ≤ 1000000000000) :
    Calls Try.prog 10 #[.pointer (some ⟨G, 0, none⟩), .agg (opV kind false pp ps.length cp pi is.length ci id)] w fun e w' => e = .returned (.bool true) ∧ ∃ s', Wd B w' G s' ∧ s'.m = s'.l ∧ s'.kr = s'.kc ∧ Below B w w' ∧ Grew s s' ps.length := by
  have hGlt := h.lt
  have HKD := hide hkd
  clear hkd
  have mixed : Try.prog.follows .mixedOrders = true := by kernel_rfl
  have e31 : ∀ args w, (callFunc 31 args).run Try.prog w = .ok (.enter 31 args) w := enters_of Try.func31 (by kernel_rfl) rfl
  have e32 : ∀ args w, (callFunc 32 args).run Try.prog w = .ok (.enter 32 args) w := enters_of Try.func32 (by kernel_rfl) rfl
  have e33 : ∀ args w, (callFunc 33 args).run Try.prog w = .ok (.enter 33 args) w := enters_of Try.func33 (by kernel_rfl) rfl
  unfold opV
  obtain ⟨w0, hw0⟩ : ∃ w0, w0 = w.alloc (.cells #[.int .i64 kind, .bool false, .slice pp ps.length cp, .slice pi is.length ci, .int .i64 id] 39) := ⟨_, rfl⟩
  have hB0 : Below w.heap.size w w0 := by rw [hw0]; exact (Below.refl _ _).alloc (Nat.le_refl _) _
  have hblk : w0.heap[w.heap.size]? = some (.cells #[.int .i64 kind, .bool false, .slice pp ps.length cp, .slice pi is.length ci, .int .i64 id] 39 (0, 0)) := by rw [hw0]; exact World.alloc_heap_new w _
  have oc : ∀ o, w0.cell? ⟨w.heap.size, o, none⟩ = (#[.int .i64 kind, .bool false, .slice pp ps.length cp, .slice pi is.length ci, .int .i64 id] : Array Value)[o]? := fun o => cell_of_row _ _ _ _ 39 (0, 0) hblk
  have o0 := oc 0
  have o1 := oc 1
  have o2 := oc 2
  have o3 := oc 3
  have o4 := oc 4
  have g0 := (h.below hB0).cells 0
  have g1 := (h.below hB0).cells 1
  have g2 := (h.below hB0).cells 2
  have g3 := (h.below hB0).cells 3
  simp [cellsOf, hml] at o0 o1 o2 o3 o4 g0 g1 g2 g3
  have HW0 := hide (h.below hB0)
  have hCl := h.cur.lt
  have hLl := fun b => (h.lst b).lt
  have hql := fun b a (e : s.q b = some a) => own_lt (h.lst b).2 a e
  have HLL := hide hLl
  have HQL := hide hql
  clear hLl hql
  have hRl := h.rc.lt
  have HB0 := hide hB0
  have HBK := hide hblk
  clear oc hblk h
  have hlt0 : w.heap.size < w0.heap.size := by rw [hw0, World.size_alloc]; omega
  have r0 := cell_regrown g0
  have r2 := cell_regrown g2
  go_enter Try.func10, Try.ntmps10
  go_wp2
  rw [← hw0]
  clear hw0
  go_wp2
  refine wp_region_quiet_below (by assumption) (by kernel_rfl) ?_
  repeat (go_big_quiet_step (fail))
  refine wpQuiet_nil ?_
  intro w1 hw'
  obtain ⟨⟨dq, osq⟩, hw''⟩ := hw'
  have b1 := below_regrown w0 dq osq
  dsimp only at hw''
  rw [← hw''] at b1
  have HW1 := hide ((unhide HW0).below b1)
  have HB1 := hide (((unhide HB0).trans (b1.mono (unhide HB0).size)))
  have HBK1 := hide ((b1.block _ hlt0).trans (unhide HBK))
  have hsz1 := (unhide HB1).size
  have hlt1 : w.heap.size < w1.heap.size := Nat.lt_of_lt_of_le hlt0 b1.size
  obtain ⟨o0', o1', o2', o3', o4'⟩ := op_cells (unhide HBK1)
  clear hw'' b1 r0 r2 o0 o1 o2 o3 o4 g0 g1 g2 g3 hB0
  have hsp : ∀ W, Below w1.heap.size w1 W → Calls Try.prog 25 #[.slice pp ps.length cp] W fun e w' => (∃ g c', e = .returned (.slice (some ⟨g, 0, none⟩) ps.length c') ∧ Mark w1.heap.size w' g c' ps) ∧ Below W.heap.size W w' ∧ Below w1.heap.size w1 w' := fun W hW =>
    (spareP pp cp ps W (hps W ((unhide HB1).mono hB |>.trans (hW.mono (Nat.le_trans hB hsz1)))) (by omega)).mono fun e w' ⟨⟨g, c', he, ho, hc⟩, hb⟩ => ⟨⟨g, c', he, ho.mono hW.size, hc⟩, hb, hW.trans (hb.mono hW.size)⟩
  have hsi : ∀ W, Below w1.heap.size w1 W → Calls Try.prog 26 #[.slice pi is.length ci] W fun e w' => (∃ g c', e = .returned (.slice (some ⟨g, 0, none⟩) is.length c') ∧ MarkI w1.heap.size w' g c' is) ∧ Below W.heap.size W w' ∧ Below w1.heap.size w1 w' := fun W hW =>
    (memI pi ci is W (his W ((unhide HB1).mono hB |>.trans (hW.mono (Nat.le_trans hB hsz1)))) (by omega)).mono fun e w' ⟨⟨g, c', he, ho, hc⟩, hb⟩ => ⟨⟨g, c', he, ho.mono hW.size, hc⟩, hb, hW.trans (hb.mono hW.size)⟩
  have hn := fun (W : World) (hW : Below w1.heap.size w1 W) => (hW.cell (p := ⟨w.heap.size, 2, none⟩) hlt1).trans o2'
  have hn2 := fun (W : World) (hW : Below w1.heap.size w1 W) => (hW.cell (p := ⟨w.heap.size, 3, none⟩) hlt1).trans o3'
  go_wp2
  go_cut [8, 9] from 31 (fun s8 s9 V => ∃ (ga ca gb cb : Nat), s8 = .slice (some ⟨ga, 0, none⟩) ps.length ca ∧ s9 = .slice (some ⟨gb, 0, none⟩) is.length cb ∧ Mark w1.heap.size V ga ca ps ∧ MarkI w1.heap.size V gb cb is ∧ Below w1.heap.size w1 V)
  case first =>
    go_region_with (first
      | (go_at_call 25; refine (hsp _ (by first | exact unhide HBi | exact (Below.refl _ _).drew)).mono ?_; rintro e wp ⟨⟨gp, cpp, rfl, hop⟩, hbp, hbp1⟩; have HOp := hide hop; (first | have HOi2 := hide ((unhide HOi).below hbp) | skip); have HBp := hide hbp1; have np := hn _ hbp1; have np2 := hn2 _ hbp1; clear hop hbp hbp1)
      | (go_at_call 26; refine (hsi _ (by first | exact unhide HBp | exact (Below.refl _ _).drew)).mono ?_; rintro e wi ⟨⟨gi, cii, rfl, hoi⟩, hbi, hbi1⟩; have HOi := hide hoi; (first | have HOp2 := hide ((unhide HOp).below hbi) | skip); have HBi := hide hbi1; have ni := hn _ hbi1; have ni2 := hn2 _ hbi1; clear hoi hbi hbi1))
    all_goals
      go_wp2
      go_meet
      first
        | exact ⟨gp, cpp, gi, cii, rfl, rfl, unhide HOp2, unhide HOi, unhide HBi⟩
        | exact ⟨gp, cpp, gi, cii, rfl, rfl, unhide HOp, unhide HOi2, unhide HBp⟩
  case rest =>
    obtain ⟨ga, ca, gb, cb, rfl, rfl, hma, hmb, hbc⟩ := hcut
    obtain ⟨wC, rfl⟩ : ∃ wC, wC = wc := ⟨_, rfl⟩
    obtain ⟨p0, p1, p2, p3, p4⟩ := op_cells ((hbc.block _ hlt1).trans (unhide HBK1))
    have HWc := hide ((unhide HW1).below hbc)
    have HBc := hide ((unhide HB1).trans (hbc.mono hsz1))
    have hszc := (unhide HBc).size
    have hBc : B ≤ wC.heap.size := Nat.le_trans hB hszc
    have HMa := hide hma
    have HMb := hide hmb
    have HPc := hide ((hbc.block _ hlt1).trans (unhide HBK1))
    have hgw : w.heap.size < wC.heap.size := Nat.lt_of_lt_of_le hlt1 hbc.size
    have HPS := hide (fun (W : World) (hW : Below wC.heap.size wC W) => hps W ((unhide HBc).mono hB |>.trans (hW.mono hBc)))
    have HIS := hide (fun (W : World) (hW : Below wC.heap.size wC W) => his W ((unhide HBc).mono hB |>.trans (hW.mono hBc)))
    clear hsp hsi hn hn2 hma hmb hbc o0' o1' o2' o3' o4'
    go_upto_block 0 with fail
    go_cut [10] from 11 (fun s10 V => s10 = .bool true ∧ ∃ s', Wd B V G s' ∧ s'.m = s'.l ∧ s'.kr = s'.kc ∧ Grew s s' ps.length ∧ Eff B w.heap.size wC V)
    case first =>
      have hGl : G < w.heap.size := hGlt
      by_cases k1 : kind = 1
      · subst k1
        go_wp2_with (first
          | (go_at_call 14; refine (refAdd (s.p false) (s.c false) (s.l false) pp cp ps wC (hml ▸ (unhide HWc).ref false) (unhide HPS wC (Below.refl _ _)) ((unhide HWc).str false) (by have := hll false; omega)).mono ?_; rintro e wr ⟨⟨qm, cm, rfl, hom⟩, hbr⟩; have HOM := hide hom; have Hbr := hide hbr; have HWr := hide ((unhide HWc).below hbr); clear hom hbr)
          | (go_at_call 21; refine (addL2 B (s.L false) (s.q false) (s.cap false) (s.l false) (some ⟨ga, 0, none⟩) ca ps wr ((unhide HWr).lst false) ((unhide HWr).str false) ((unhide HMa).below (unhide Hbr)).sl (Nat.le_trans hBc (unhide Hbr).size) (by have := hll false; omega)).mono ?_; rintro e wt ⟨rfl, htu⟩; obtain ⟨q', cap', hwt, hef, hsp'⟩ := (unhide HWr).turnS false (str_ris _) htu (Nat.le_trans hszc (unhide Hbr).size) (unhide HLL false) (unhide HQL false); have HWT := hide hwt; have HEF := hide hef; have HSP := hide hsp'; have hGt := hwt.lt; have gt0 := hwt.cells 2; simp [cellsOf] at gt0; have gf0 := hwt.free 2; clear hwt hef hsp' htu))
        go_meet
        have hlow : ∀ a, qm = some a → wC.heap.size ≤ a.block := fun a e => by
          have := (World.ownsRow.lt (unhide HOM) a.block (by rw [own_block, e]; rfl)).1; exact this
        have hup := own_lt (unhide HOM)
        have hom2 := own_eff (unhide HOM) (unhide HEF) hszc
        have hsepq : ∀ x, Sep qm (s.q x) := fun x a a1 e e1 => by
          have h1 := hlow a e; have h2 := unhide HQL x a1 e1; omega
        have hset := (unhide HWT).toWr.setM false (pq := qm) (pc := cm) (m' := (ris (s.l false ++ ps))) hom2.ls (fun a e => Nat.lt_of_lt_of_le (hup a e) (unhide HEF).1.size) (fun x => by
          show Sep qm (upd s.q false q' x)
          by_cases e : x = false
          · subst e; rw [upd_same]; exact unhide HSP qm (hsepq _) hup
          · rw [upd_other _ _ e]; exact hsepq x)
        have hput := (unhide HWT).put hset 2 (.slice qm (ris (s.l false ++ ps)).length cm) (by simp [cellsOf, upd])
        have hef2 : Eff B w.heap.size wC (wt.setCell ⟨G, 2, none⟩ (.slice qm (ris (s.l false ++ ps)).length cm)) := ((Eff.of_below (unhide Hbr) hBc).trans (unhide HEF) hszc).trans (eff_set (unhide HWc).lowG hGl _ _) hszc
        exact ⟨by simp, _, hput, by
          show upd s.m false _ = upd s.l false _
          rw [hml], hkk, ⟨fun x => by
          show (upd s.l false (ris (s.l false ++ ps)) x).length ≤ _
          by_cases e : x = false
          · subst e; rw [upd_same]; exact (by have := ris_len (s.l false ++ ps); rw [List.length_append] at this; omega)
          · rw [upd_other _ _ e]; omega, Or.inl rfl⟩, hef2⟩
      by_cases k2 : kind = 2
      · subst k2
        clear k1
        go_wp2_with (first
          | (go_at_call 27; refine (refDrop (s.p false) (s.c false) (s.l false) pi ci is wC (hml ▸ (unhide HWc).ref false) (unhide HIS wC (Below.refl _ _)) (by have := hll false; omega) (by omega)).mono ?_; rintro e wr ⟨⟨qm, cm, rfl, hom⟩, hbr⟩; have HOM := hide hom; have Hbr := hide hbr; have HWr := hide ((unhide HWc).below hbr); clear hom hbr)
          | (go_at_call 22; refine (dropL2 B (s.L false) (s.q false) (s.cap false) (s.l false) (some ⟨gb, 0, none⟩) cb is wr ((unhide HWr).lst false) ((unhide HMb).below (unhide Hbr)).sl (Nat.le_trans hBc (unhide Hbr).size) (by have := hll false; omega) (by omega)).mono ?_; rintro e wt ⟨rfl, htu⟩; obtain ⟨q', cap', hwt, hef, hsp'⟩ := (unhide HWr).turnS false (str_wo ((unhide HWr).str false) _) htu (Nat.le_trans hszc (unhide Hbr).size) (unhide HLL false) (unhide HQL false); have HWT := hide hwt; have HEF := hide hef; have HSP := hide hsp'; have hGt := hwt.lt; have gt0 := hwt.cells 2; simp [cellsOf] at gt0; have gf0 := hwt.free 2; clear hwt hef hsp' htu))
        go_meet
        have hlow : ∀ a, qm = some a → wC.heap.size ≤ a.block := fun a e => by
          have := (World.ownsRow.lt (unhide HOM) a.block (by rw [own_block, e]; rfl)).1; exact this
        have hup := own_lt (unhide HOM)
        have hom2 := own_eff (unhide HOM) (unhide HEF) hszc
        have hsepq : ∀ x, Sep qm (s.q x) := fun x a a1 e e1 => by
          have h1 := hlow a e; have h2 := unhide HQL x a1 e1; omega
        have hset := (unhide HWT).toWr.setM false (pq := qm) (pc := cm) (m' := (wo (s.l false) is)) hom2.ls (fun a e => Nat.lt_of_lt_of_le (hup a e) (unhide HEF).1.size) (fun x => by
          show Sep qm (upd s.q false q' x)
          by_cases e : x = false
          · subst e; rw [upd_same]; exact unhide HSP qm (hsepq _) hup
          · rw [upd_other _ _ e]; exact hsepq x)
        have hput := (unhide HWT).put hset 2 (.slice qm (wo (s.l false) is).length cm) (by simp [cellsOf, upd])
        have hef2 : Eff B w.heap.size wC (wt.setCell ⟨G, 2, none⟩ (.slice qm (wo (s.l false) is).length cm)) := ((Eff.of_below (unhide Hbr) hBc).trans (unhide HEF) hszc).trans (eff_set (unhide HWc).lowG hGl _ _) hszc
        exact ⟨by simp, _, hput, by
          show upd s.m false _ = upd s.l false _
          rw [hml], hkk, ⟨fun x => by
          show (upd s.l false (wo (s.l false) is) x).length ≤ _
          by_cases e : x = false
          · subst e; rw [upd_same]; exact (by have : (wo (s.l false) is).length ≤ (s.l false).length := List.length_filter_le _ _; omega)
          · rw [upd_other _ _ e]; omega, Or.inl rfl⟩, hef2⟩
      by_cases k3 : kind = 3
      · subst k3
        clear k1 k2
        have hqp : ∀ W, Below wC.heap.size wC W → SlOf encP 2 W pp cp ps := unhide HPS
        have a0 : (ps.length : Int) ≤ 1048576 := by omega
        have e23 : ∀ args w, (callFunc 23 args).run Try.prog w = .ok (.enter 23 args) w := enters_of Try.func23 (by kernel_rfl) rfl
        have e28 : ∀ args w, (callFunc 28 args).run Try.prog w = .ok (.enter 28 args) w := enters_of Try.func28 (by kernel_rfl) rfl
        go_wp2
        go_loopw [10, 84] (fun ok i wr => ∃ k : Nat, k ≤ ps.length ∧ i = .int .i64 k ∧ ok = .bool true ∧ Below wC.heap.size wC wr) (fun _ i _ => ps.length - (intOf i).toNat)
        case atStart => exact ⟨0, by omega, rfl, rfl, Below.refl _ _⟩
        case round =>
          obtain ⟨k, hk, rfl, rfl, hbr⟩ := hrel
          have Hbr := hide hbr
          by_cases hlt : k < ps.length
          · obtain ⟨x, hx, hxd⟩ := get_at hlt
            clear hxd
            obtain ⟨bb, off, hq, hb, x0, x1⟩ := postAt (hqp wr hbr) hx
            subst hq
            have ki0 : (0 : Int) ≤ (k : Int) := by omega
            have ki1 : (k : Int) < (ps.length : Int) := by omega
            obtain ⟨Y, HY⟩ : ∃ Y, wr.alloc (.cells #[.int .i64 x.1, .bool x.2] 43) = Y := ⟨_, rfl⟩
            have hM : Y.heap[wr.heap.size]? = some (.cells #[.int .i64 x.1, .bool x.2] 43 (0, 0)) := by rw [← HY]; exact World.alloc_heap_new wr _
            have hrY : Below wr.heap.size wr Y := by rw [← HY]; exact (Below.refl _ _).alloc (Nat.le_refl _) _
            have y0 : Y.cell? ⟨wr.heap.size, 0, none⟩ = some (.int .i64 x.1) := by unfold World.cell?; simp [hM]
            have y1 : Y.cell? ⟨wr.heap.size, 1, none⟩ = some (.bool x.2) := by unfold World.cell?; simp [hM]
            have HBY := hide (hbr.trans (hrY.mono hbr.size))
            have q23 := fun (n : Nat) (os : Array Obj) => hasL B (s.L false) (s.q false) (s.cap false) (s.l false) x (grow (redrawn Y n) os) (by have := hll false; omega) ((unhide HWc).str false) ((((unhide HWc).lst false).below (unhide HBY)).below (below_regrown Y n os))
            have q28 := fun (n : Nat) (os : Array Obj) => refHas (s.p false) (s.c false) (s.l false) x (grow (redrawn Y n) os) ((hml ▸ ((unhide HWc).ref false).below (unhide HBY) : SlOf encP 2 Y (s.p false) (s.c false) (s.l false)).below (below_regrown Y n os)) (by have := hll false; omega)
            obtain ⟨D, hD⟩ : ∃ D, decide (x ∈ s.l false) = D := ⟨_, rfl⟩
            rw [hD] at q23 q28
            have z0 := cell_regrown y0
            have z1 := cell_regrown y1
            have DD : (D == D) = true := by simp
            clear hD hM hrY hx hbr
            go_wp2
            refine wp_region_quiet_below (by assumption) (by kernel_rfl) ?_
            repeat (go_big_quiet_step (first
              | (go_at_fn 23; refine Calls.regrown_of (q23 _ _))
              | (go_at_fn 28; refine Calls.regrown_of (q28 _ _))))
            refine wpQuiet_nil ?_
            intro w4 hw'
            obtain ⟨⟨dq2, osq2⟩, hw''⟩ := hw'
            have b4 := below_regrown Y dq2 osq2
            dsimp only at hw''
            rw [← hw''] at b4
            have HB4 := hide ((unhide HBY).trans (b4.mono (unhide HBY).size))
            clear hw'' b4 q23 q28 z0 z1 y0 y1
            go_wp2
            go_roundw
            case rel => exact ⟨k + 1, by omega, by go_num, by simp, unhide HB4⟩
            case measure => simp [intOf]; omega
          · have ki1 : ¬ (k : Int) < (ps.length : Int) := by omega
            clear hbr
            go_wp2
            go_meet
            exact ⟨rfl, s, (unhide HWc).below (unhide Hbr), hml, hkk, Grew.refl _ _, Eff.of_below (unhide Hbr) hBc⟩
      by_cases k4 : kind = 4
      · subst k4
        clear k1 k2 k3
        have hn8 := newL (some ⟨ga, 0, none⟩) ca ps (by omega) wC.drew ((unhide HMa).below (Below.refl _ _).drew).sl
        have gc0 := (unhide HWc).cells 0
        simp [cellsOf] at gc0
        have gf0 := (unhide HWc).free 0
        go_wp2
        go_region_with (go_at_call 8; refine hn8.mono ?_; rintro e wn ⟨⟨L', q', cap', rfl, hLL, hlst⟩, hbn⟩; have HLST := hide hlst; have Hbn := hide (((Below.refl wC.heap.size wC).drew).trans hbn); have hLw : wC.heap.size ≤ L' := hLL; have gn0 := ((unhide HWc).below (unhide Hbn)).cells 0; simp [cellsOf] at gn0; have gnf := ((unhide HWc).below (unhide Hbn)).free 0; clear hlst hbn hLL)
        have HWn := hide ((unhide HWc).below (unhide Hbn))
        have hq' : ∀ a, q' = some a → wC.heap.size ≤ a.block := fun a e => by
          have := (World.ownsRow.lt (unhide HLST).2 a.block (by rw [own_block, e]; rfl)).1; exact this
        have hq2 := own_lt (unhide HLST).2
        have hsq : ∀ (q0 : Option Addr), (∀ a, q0 = some a → a.block < wC.heap.size) → Sep q0 q' := fun q0 h0 a a1 e e1 => by
          have h1 := h0 a e; have h2 := hq' a1 e1; omega
        have hr1 := (unhide HWn).toWr.setL false (L' := L') (q' := q') (cap' := cap') (l' := ris ps) ⟨(unhide HLST).1, (unhide HLST).2.mono hBc⟩ (Nat.le_trans hBc hLw) (str_ris _) (fun x => by have := unhide HLL x; omega) (fun x => hsq _ fun a e => Nat.lt_of_lt_of_le (unhide HQL x a e) hszc) (fun x => hsq _ ((unhide HWc).plt x)) (hsq _ (unhide HWc).rlt) (hsq _ (unhide HWc).clt)
        have hd1 := (unhide HWn).put hr1 0 (.pointer (some ⟨L', 0, none⟩)) (by simp [cellsOf, upd])
        have he1 := (Eff.of_below (A := w.heap.size) (unhide Hbn) hBc).trans (eff_set (w := wn) (unhide HWc).lowG hGl 0 (.pointer (some ⟨L', 0, none⟩))) hszc
        obtain ⟨W1, hW1⟩ : ∃ W1, wn.setCell ⟨G, 0, none⟩ (.pointer (some ⟨L', 0, none⟩)) = W1 := ⟨_, rfl⟩
        rw [hW1] at hd1 he1
        have hs1n : wn.heap.size ≤ W1.heap.size := by rw [← hW1]; simp
        have HD1 := hide hd1
        have HE1 := hide he1
        obtain ⟨p0', p1', p2', p3', p4'⟩ := op_cells ((he1.2 _ (Nat.le_refl _) hgw).trans (unhide HPc))
        have hr14 := refAdd none 0 [] pp cp ps W1.drew (SlOf.none _) (hps _ ((((unhide HBc).mono hB).trans he1.1).trans ((Below.refl _ _).drew))) List.Pairwise.nil (by simp; omega)
        simp only [List.nil_append, List.length_nil, Nat.sub_zero] at hr14
        clear hd1 he1 hr1 p0 p1 p2 p3 p4 gc0 gf0
        go_wp2
        try rw [hW1]
        clear hW1
        go_region_with (go_at_call 14; refine hr14.mono ?_; rintro e wm ⟨⟨qm, cm, rfl, hom⟩, hbm⟩; have HOM := hide hom; have Hbm := hide (((Below.refl W1.heap.size W1).drew).trans hbm); have gm0 := ((unhide HD1).below (unhide Hbm)).cells 0; have gm2 := ((unhide HD1).below (unhide Hbm)).cells 2; simp [cellsOf, upd] at gm0 gm2; have gmf := ((unhide HD1).below (unhide Hbm)).free 2; clear hom hbm)
        go_wp2
        go_meet
        have HWm := hide ((unhide HD1).below (unhide Hbm))
        have hlow : ∀ a, qm = some a → W1.heap.size ≤ a.block := fun a e => by
          have := (World.ownsRow.lt (unhide HOM) a.block (by rw [own_block, e]; rfl)).1; exact this
        have hsz1' := (unhide HE1).1.size
        have hset := (unhide HWm).toWr.setM false (pq := qm) (pc := cm) (m' := ris ps) (unhide HOM).ls (own_lt (unhide HOM)) (fun x => by
          show Sep qm (upd s.q false q' x)
          intro a a1 e e1
          have h1 := hlow a e
          by_cases ex : x = false
          · subst ex; rw [upd_same] at e1; have := hq2 a1 e1; omega
          · rw [upd_other _ _ ex] at e1; have := unhide HQL x a1 e1; omega)
        have hput := (unhide HWm).put hset 2 (.slice qm (ris ps).length cm) (by simp [cellsOf, upd])
        exact ⟨by simp, _, hput, by
          show upd s.m false _ = upd s.l false _
          rw [hml], hkk, ⟨fun x => by
          show (upd s.l false (ris ps) x).length ≤ _
          by_cases e : x = false
          · subst e; rw [upd_same]; have := ris_len ps; omega
          · rw [upd_other _ _ e]; omega, Or.inl rfl⟩, ((unhide HE1).trans (Eff.of_below (unhide Hbm) (Nat.le_trans hBc hsz1')) hszc).trans (eff_set (unhide HWc).lowG hGl _ _) hszc⟩
      by_cases k5 : kind = 5
      · subst k5
        clear k1 k2 k3 k4
        exact absurd (unhide HKD) (by omega)
      by_cases k6 : kind = 6
      · subst k6
        clear k1 k2 k3 k4 k5
        exact absurd (unhide HKD) (by omega)
      by_cases k7 : kind = 7
      · subst k7
        clear k1 k2 k3 k4 k5 k6
        exact absurd (unhide HKD) (by omega)
      have q1 : (kind == 1) = false := by simpa using k1
      have q2 : (kind == 2) = false := by simpa using k2
      have q3 : (kind == 3) = false := by simpa using k3
      have q4 : (kind == 4) = false := by simpa using k4
      have q5 : (kind == 5) = false := by simpa using k5
      have q6 : (kind == 6) = false := by simpa using k6
      have q7 : (kind == 7) = false := by simpa using k7
      exact absurd (unhide HKD) (by omega)
    case rest =>
      obtain ⟨rfl, s', hwd, hm', hk', hgr, hef⟩ := hcut
      have hlc' : s'.lc.length ≤ 100000000000000 := by
        rcases hgr.2 with e | ⟨b, e⟩
        · rw [e]; omega
        · rw [e]; have := hll b; omega
      obtain ⟨p0', p1', p2', p3', p4'⟩ := op_cells ((hef.2 _ (Nat.le_refl _) hgw).trans (unhide HPc))
      have hszd := hef.1.size
      have HBd := hide (((unhide HBc).mono hB).trans hef.1)
      have HNa := hide ((unhide HMa).eff hef hsz1)
      have HNb := hide ((unhide HMb).eff hef hsz1)
      have c4 := hwd.cells 4
      have c5 := hwd.cells 5
      simp [cellsOf] at c4 c5
      have HWD := hide hwd
      have HG := hide hgr
      have HK := hide hk'
      have HM := hide hm'
      clear hwd hef hgr hk' hm' p0 p1 p2 p3 p4
      have hk31 : ∀ W, Below wc.heap.size wc W → Calls Try.prog 31 #[.slice (some ⟨ga, 0, none⟩) ps.length ca, .slice pp ps.length cp] W fun e w' => e = .returned (.bool true) ∧ Below W.heap.size W w' := fun W hW =>
        have hm := (unhide HNa).below hW
        keptP ga ca pp cp ps W (by omega) hm.1.ls.2.2.2 hm.2 hm.1.ls.2.2.1 (hps W ((unhide HBd).trans (hW.mono (Nat.le_trans hBc hszd))))
      have hk32 : ∀ W, Below wc.heap.size wc W → Calls Try.prog 32 #[.slice (some ⟨gb, 0, none⟩) is.length cb, .slice pi is.length ci] W fun e w' => e = .returned (.bool true) ∧ Below W.heap.size W w' := fun W hW =>
        have hm := (unhide HNb).below hW
        keptI gb cb pi ci is W (by omega) hm.1.ls.2.2.2 hm.2 hm.1.ls.2.2.1 (his W ((unhide HBd).trans (hW.mono (Nat.le_trans hBc hszd))))
      have hk33 : ∀ W, Below wc.heap.size wc W → Calls Try.prog 33 #[.pointer (some ⟨s'.C, 0, none⟩), .pointer (some ⟨s'.R, 0, none⟩)] W fun e w' => e = .returned (.bool true) ∧ Below W.heap.size W w' := fun W hW =>
        have hd := (unhide HWD).below hW
        standsC s'.C s'.R s'.qc s'.pr s'.capc s'.cr s'.kc s'.lc W hd.cur ((unhide HK) ▸ hd.rc) hd.curl hd.rcl hd.kcl hlc'
      have t2 := cell_regrown p2'
      have t3 := cell_regrown p3'
      have t4 := cell_regrown c4
      have t5 := cell_regrown c5
      clear p0' p1' p2' p3' p4' c4 c5
      go_wp2
      refine wp_region_quiet_below (by assumption) (by kernel_rfl) ?_
      repeat (go_big_quiet_step (first
        | (go_at_fn 31; refine Calls.regrown_of (hk31 _ (below_regrown _ _ _)))
        | (go_at_fn 32; refine Calls.regrown_of (hk32 _ (below_regrown _ _ _)))
        | (go_at_fn 33; refine Calls.regrown_of (hk33 _ (below_regrown _ _ _)))))
      refine wpQuiet_nil ?_
      intro w4 hw'
      obtain ⟨⟨dq2, osq2⟩, hw''⟩ := hw'
      have b4 := below_regrown wc dq2 osq2
      dsimp only at hw''
      rw [← hw''] at b4
      have HW4 := hide ((unhide HWD).below b4)
      have HB4 := hide ((unhide HBd).trans (b4.mono (Nat.le_trans hBc hszd)))
      clear hw'' b4 t2 t3 t4 t5 hk31 hk32 hk33
      go_wp2
      go_ret
      exact ⟨rfl, s', unhide HW4, unhide HM, unhide HK, unhide HB4, unhide HG⟩
end Go.Proofs.Ytelgpmjafaopmaa
