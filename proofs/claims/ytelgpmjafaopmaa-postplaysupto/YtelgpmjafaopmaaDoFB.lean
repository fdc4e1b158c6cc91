/- world.do: one call on the first list: the cursor, or none. -/
import Derived.Test.YtelgpmjafaopmaaDoEff
import Derived.Deep.CutBlock
namespace Go.Proofs.Ytelgpmjafaopmaa
open Go.RowKit Go.Sort Go.Shelf

theorem skip_lef {id : Int} {l : List Pt} {k : Nat} (h : k ≤ l.length) : k + cnt (ltD id) (l.drop k) ≤ l.length := by
  have : cnt (ltD id) (l.drop k) ≤ (l.drop k).length := cnt_le _ _
  rw [List.length_drop] at this; omega
set_option maxHeartbeats 8000000 in
set_option maxRecDepth 100000 in
theorem do_fB (B G : Nat) (s : St) (w : World) (h : Wd B w G s) (kind : Int) (pp : Option Addr) (cp : Nat) (ps : List Pt) (pi : Option Addr) (ci : Nat) (is : List Int) (id : Int) (hkd : ¬ (kind = 1 ∨ kind = 2 ∨ kind = 3 ∨ kind = 4))
    (hps : ∀ W, Below B w W → SlOf encP 2 W pp cp ps) (his : ∀ W, Below B w W → SlOf encI 1 W pi ci is) (hml : s.m = s.l) (hkk : s.kr = s.kc) (hB : B ≤ w.heap.size) (hp : ps.length ≤ 1048576) (hi : is.length ≤ 1048576) (hlc : s.lc.length ≤ 1000000000000) (hll : ∀ b, (s.l b).length ≤ 1000000000000) :
    Calls Try.prog 10 #[.pointer (some ⟨G, 0, none⟩), .agg (opV kind false pp ps.length cp pi is.length ci id)] w fun e w' => e = .returned (.bool true) ∧ ∃ s', Wd B w' G s' ∧ s'.m = s'.l ∧ s'.kr = s'.kc ∧ Below B w w' ∧ Grew s s' ps.length := by
  have hGlt := h.lt
  have HKD := hide hkd
  clear hkd
  have mixed : Try.prog.follows .mixedOrders = true := by kernel_rfl
  have e31 : ∀ args w, (callFunc 31 args).run Try.prog w = .ok (.enter 31 args) w := enters_of Try.func31 (by kernel_rfl) rfl
  have e32 : ∀ args w, (callFunc 32 args).run Try.prog w = .ok (.enter 32 args) w := enters_of Try.func32 (by kernel_rfl) rfl
  have e33 : ∀ args w, (callFunc 33 args).run Try.prog w = .ok (.enter 33 args) w := enters_of Try.func33 (by kernel_rfl) rfl
  unfold opV
  obtain ⟨w0, hw0⟩ : ∃ w0, w0 = w.alloc (.cells #[.int .i64 kind, .bool false, .slice pp ps.length cp, .slice pi is.length ci, .int .i64 id] 39) := ⟨_, rfl⟩
  have hB0 : Below w.heap.size w w0 := by rw [hw0]; exact (Below.refl _ _).alloc (Nat.le_refl _) _
  have hblk : w0.heap[w.heap.size]? = some (.cells #[.int .i64 kind, .bool false, .slice pp ps.length cp, .slice pi is.length ci, .int .i64 id] 39 (0, 0)) := by rw [hw0]; exact World.alloc_heap_new w _
  have oc : ∀ o, w0.cell? ⟨w.heap.size, o, none⟩ = (#[.int .i64 kind, .bool false, .slice pp ps.length cp, .slice pi is.length ci, .int .i64 id] : Array Value)[o]? := fun o => cell_of_row _ _ _ _ 39 (0, 0) hblk
  have o0 := oc 0
  have o1 := oc 1
  have o2 := oc 2
  have o3 := oc 3
  have o4 := oc 4
  have g0 := (h.below hB0).cells 0
  have g1 := (h.below hB0).cells 1
  have g2 := (h.below hB0).cells 2
  have g3 := (h.below hB0).cells 3
  simp [cellsOf, hml] at o0 o1 o2 o3 o4 g0 g1 g2 g3
  have HW0 := hide (h.below hB0)
  have hCl := h.cur.lt
  have hLl := fun b => (h.lst b).lt
  have hql := fun b a (e : s.q b = some a) => own_lt (h.lst b).2 a e
  have HLL := hide hLl
  have HQL := hide hql
  clear hLl hql
  have hRl := h.rc.lt
  have HB0 := hide hB0
  have HBK := hide hblk
  clear oc hblk h
  have hlt0 : w.heap.size < w0.heap.size := by rw [hw0, World.size_alloc]; omega
  have r0 := cell_regrown g0
  have r2 := cell_regrown g2
  go_enter Try.func10, Try.ntmps10
  go_wp2
  rw [← hw0]
  clear hw0
  go_wp2
  refine wp_region_quiet_below (by assumption) (by kernel_rfl) ?_
  repeat (go_big_quiet_step (fail))
  refine wpQuiet_nil ?_
  intro w1 hw'
  obtain ⟨⟨dq, osq⟩, hw''⟩ := hw'
  have b1 := below_regrown w0 dq osq
  dsimp only at hw''
  rw [← hw''] at b1
  have HW1 := hide ((unhide HW0).below b1)
  have HB1 := hide (((unhide HB0).trans (b1.mono (unhide HB0).size)))
  have HBK1 := hide ((b1.block _ hlt0).trans (unhide HBK))
  have hsz1 := (unhide HB1).size
  have hlt1 : w.heap.size < w1.heap.size := Nat.lt_of_lt_of_le hlt0 b1.size
  obtain ⟨o0', o1', o2', o3', o4'⟩ := op_cells (unhide HBK1)
  clear hw'' b1 r0 r2 o0 o1 o2 o3 o4 g0 g1 g2 g3 hB0
  have hsp : ∀ W, Below w1.heap.size w1 W → Calls Try.prog 25 #[.slice pp ps.length cp] W fun e w' => (∃ g c', e = .returned (.slice (some ⟨g, 0, none⟩) ps.length c') ∧ Mark w1.heap.size w' g c' ps) ∧ Below W.heap.size W w' ∧ Below w1.heap.size w1 w' := fun W hW =>
    (spareP pp cp ps W (hps W ((unhide HB1).mono hB |>.trans (hW.mono (Nat.le_trans hB hsz1)))) (by omega)).mono fun e w' ⟨⟨g, c', he, ho, hc⟩, hb⟩ => ⟨⟨g, c', he, ho.mono hW.size, hc⟩, hb, hW.trans (hb.mono hW.size)⟩
  have hsi : ∀ W, Below w1.heap.size w1 W → Calls Try.prog 26 #[.slice pi is.length ci] W fun e w' => (∃ g c', e = .returned (.slice (some ⟨g, 0, none⟩) is.length c') ∧ MarkI w1.heap.size w' g c' is) ∧ Below W.heap.size W w' ∧ Below w1.heap.size w1 w' := fun W hW =>
    (memI pi ci is W (his W ((unhide HB1).mono hB |>.trans (hW.mono (Nat.le_trans hB hsz1)))) (by omega)).mono fun e w' ⟨⟨g, c', he, ho, hc⟩, hb⟩ => ⟨⟨g, c', he, ho.mono hW.size, hc⟩, hb, hW.trans (hb.mono hW.size)⟩
  have hn := fun (W : World) (hW : Below w1.heap.size w1 W) => (hW.cell (p := ⟨w.heap.size, 2, none⟩) hlt1).trans o2'
  have hn2 := fun (W : World) (hW : Below w1.heap.size w1 W) => (hW.cell (p := ⟨w.heap.size, 3, none⟩) hlt1).trans o3'
  go_wp2
  go_cut [8, 9] from 31 (fun s8 s9 V => ∃ (ga ca gb cb : Nat), s8 = .slice (some ⟨ga, 0, none⟩) ps.length ca ∧ s9 = .slice (some ⟨gb, 0, none⟩) is.length cb ∧ Mark w1.heap.size V ga ca ps ∧ MarkI w1.heap.size V gb cb is ∧ Below w1.heap.size w1 V)
  case first =>
    go_region_with (first
      | (go_at_call 25; refine (hsp _ (by first | exact unhide HBi | exact (Below.refl _ _).drew)).mono ?_; rintro e wp ⟨⟨gp, cpp, rfl, hop⟩, hbp, hbp1⟩; have HOp := hide hop; (first | have HOi2 := hide ((unhide HOi).below hbp) | skip); have HBp := hide hbp1; have np := hn _ hbp1; have np2 := hn2 _ hbp1; clear hop hbp hbp1)
      | (go_at_call 26; refine (hsi _ (by first | exact unhide HBp | exact (Below.refl _ _).drew)).mono ?_; rintro e wi ⟨⟨gi, cii, rfl, hoi⟩, hbi, hbi1⟩; have HOi := hide hoi; (first | have HOp2 := hide ((unhide HOp).below hbi) | skip); have HBi := hide hbi1; have ni := hn _ hbi1; have ni2 := hn2 _ hbi1; clear hoi hbi hbi1))
    all_goals
      go_wp2
      go_meet
      first
        | exact ⟨gp, cpp, gi, cii, rfl, rfl, unhide HOp2, unhide HOi, unhide HBi⟩
        | exact ⟨gp, cpp, gi, cii, rfl, rfl, unhide HOp, unhide HOi2, unhide HBp⟩
  case rest =>
    obtain ⟨ga, ca, gb, cb, rfl, rfl, hma, hmb, hbc⟩ := hcut
    obtain ⟨wC, rfl⟩ : ∃ wC, wC = wc := ⟨_, rfl⟩
    obtain ⟨p0, p1, p2, p3, p4⟩ := op_cells ((hbc.block _ hlt1).trans (unhide HBK1))
    have HWc := hide ((unhide HW1).below hbc)
    have HBc := hide ((unhide HB1).trans (hbc.mono hsz1))
    have hszc := (unhide HBc).size
    have hBc : B ≤ wC.heap.size := Nat.le_trans hB hszc
    have HMa := hide hma
    have HMb := hide hmb
    have HPc := hide ((hbc.block _ hlt1).trans (unhide HBK1))
    have hgw : w.heap.size < wC.heap.size := Nat.lt_of_lt_of_le hlt1 hbc.size
    have HPS := hide (fun (W : World) (hW : Below wC.heap.size wC W) => hps W ((unhide HBc).mono hB |>.trans (hW.mono hBc)))
    have HIS := hide (fun (W : World) (hW : Below wC.heap.size wC W) => his W ((unhide HBc).mono hB |>.trans (hW.mono hBc)))
    clear hsp hsi hn hn2 hma hmb hbc o0' o1' o2' o3' o4'
    go_upto_block 0 with fail
    go_cut [10] from 11 (fun s10 V => s10 = .bool true ∧ ∃ s', Wd B V G s' ∧ s'.m = s'.l ∧ s'.kr = s'.kc ∧ Grew s s' ps.length ∧ Eff B w.heap.size wC V)
    case first =>
      have hGl : G < w.heap.size := hGlt
      by_cases k1 : kind = 1
      · subst k1
        exact absurd (unhide HKD) (by omega)
      by_cases k2 : kind = 2
      · subst k2
        clear k1
        exact absurd (unhide HKD) (by omega)
      by_cases k3 : kind = 3
      · subst k3
        clear k1 k2
        exact absurd (unhide HKD) (by omega)
      by_cases k4 : kind = 4
      · subst k4
        clear k1 k2 k3
        exact absurd (unhide HKD) (by omega)
      by_cases k5 : kind = 5
      · subst k5
        clear k1 k2 k3 k4
        go_wp2_with (first
          | (go_at_call 9; refine (cursorL B (s.L false) (s.q false) (s.cap false) (s.l false) wC ((unhide HWc).lst false)).mono ?_; rintro e w9 ⟨⟨C, rfl, hC, hcur⟩, hb9⟩; have HCU := hide hcur; have Hb9 := hide hb9; have hsz9 := hb9.size; clear hcur hb9)
          | (at_builtin; refine wpList_app rowP rfl _ _ rfl w9.heap.size (some ⟨w9.heap.size, 0, none⟩) 0 [] (s.p false) (s.c false) (s.l false) 0 (s.l false).length (s.l false).length rfl rfl (by simp) rfl rfl (OwnK.made _ _ (Nat.le_refl _)) (((hml ▸ (unhide HWc).ref false : SlOf encP 2 wC (s.p false) (s.c false) (s.l false)).below (unhide Hb9)).below ((Below.refl _ _).alloc (Nat.le_refl _) _)).src (by have := hll false; unfold maxLen; omega) (by have := hll false; omega) (by simp) ?_; intro qa ca' wA hoA hbA _ _; rw [List.nil_append] at hoA; have hbA2 : Below w9.heap.size w9 wA := ((Below.refl w9.heap.size w9).alloc (Nat.le_refl _) _).trans hbA; have HOA := hide hoA; obtain ⟨Z, HZ⟩ : ∃ Z, wA.alloc (.cells #[.slice qa (s.l false).length ca', .int .i64 0] 36) = Z := ⟨_, rfl⟩; have hAZ : Below wA.heap.size wA Z := (by rw [← HZ]; exact (Below.refl _ _).alloc (Nat.le_refl _) _); have hRZ : Z.heap[wA.heap.size]? = some (.cells #[.slice qa (s.l false).length ca', .int .i64 0] 36 (0, 0)) := (by rw [← HZ]; exact World.alloc_heap_new wA _); have HB9Z := hide (hbA2.trans (hAZ.mono hbA2.size)); have HAZ := hide hAZ; have HRZ := hide hRZ; have HCZ := hide ((unhide Hb9).trans ((unhide HB9Z).mono hsz9)); have hsA := hbA2.size; have z4 := ((unhide HWc).below (unhide HCZ)).cells 4; have z5 := ((unhide HWc).below (unhide HCZ)).cells 5; simp [cellsOf] at z4 z5; have f4 := ((unhide HWc).below (unhide HCZ)).free 4; have f5 := ((unhide HWc).below (unhide HCZ)).free 5; clear hoA hbA hbA2 hAZ hRZ))
        go_meet
        subst hC
        have HWZ := hide ((unhide HWc).below (unhide HCZ))
        have hlow : ∀ a, qa = some a → w9.heap.size ≤ a.block := fun a e => by
          have := (World.ownsRow.lt (unhide HOA) a.block (by rw [own_block, e]; rfl)).1; exact this
        have hset := (unhide HWZ).toWr.setC false (C := wC.heap.size) (R := wA.heap.size) (pr := qa) (cr := ca') (by omega) (by omega) ((unhide HCU).below (unhide HB9Z)) (unhide HRZ) (((unhide HOA).below (unhide HAZ)).ls) (fun x a a1 e e1 => by
          have h1 := hlow a e; have h2 := unhide HQL x a1 e1; omega) (fun a e => Nat.lt_of_lt_of_le (own_lt (unhide HOA) a e) (unhide HAZ).size)
        exact ⟨by simp, _, (unhide HWZ).putCR hset (by simp [cellsOf]), hml, rfl, ⟨fun _ => Nat.le_add_right _ _, Or.inr ⟨false, rfl⟩⟩, (((Eff.of_below (unhide HCZ) hBc).trans (eff_set (unhide HWc).lowG hGl _ _) hszc).trans (eff_set (unhide HWc).lowG hGl _ _) hszc)⟩
      by_cases k6 : kind = 6
      · subst k6
        clear k1 k2 k3 k4 k5
        have hxC : ∀ (W : World), w.heap.size ≤ W.heap.size → Wd B W G s → Calls Try.prog 19 #[.pointer (some ⟨s.C, 0, none⟩)] W fun e w' => e = .returned (.bool (decide ((nx s.kc s.lc.length) < s.lc.length))) ∧ Wd B w' G { s with kc := (nx s.kc s.lc.length) } ∧ Eff B w.heap.size W w' := fun W hW hd =>
          (nextC_any s.C s.qc s.lc.length s.capc s.kc W hd.cur hd.kcl (by omega)).mono fun e w' ⟨he, hc, hg⟩ => ⟨he, hd.moveC (nx_le hd.kcl) hc hg, eff_of hg hd.lowC hCl (Nat.le_trans hB hW)⟩
        have hxR : ∀ (W : World), w.heap.size ≤ W.heap.size → Wd B W G { s with kc := (nx s.kc s.lc.length) } → Calls Try.prog 29 #[.pointer (some ⟨s.R, 0, none⟩)] W fun e w' => e = .returned (.bool (decide ((nx s.kc s.lc.length) < s.lc.length))) ∧ Wd B w' G { s with kc := (nx s.kc s.lc.length), kr := (nx s.kc s.lc.length) } ∧ Eff B w.heap.size W w' := fun W hW hd =>
          (show Calls Try.prog 29 _ W _ from hkk ▸ nextR_any s.R s.pr s.lc.length s.cr s.kr W hd.rc hd.krl (by omega)).mono fun e w' ⟨he, hc, hg⟩ => ⟨he, hd.moveR (hkk ▸ nx_le hd.krl) hc hg, eff_of hg hd.lowR hRl (Nat.le_trans hB hW)⟩
        have hss : ∀ (W : World) (x : St), Wd B W G x → Eff B w.heap.size wC W → x.C = s.C → x.R = s.R → W.cell? ⟨G, 4, none⟩ = some (.pointer (some ⟨s.C, 0, none⟩)) ∧ W.cell? ⟨G, 5, none⟩ = some (.pointer (some ⟨s.R, 0, none⟩)) ∧ W.cell? ⟨w.heap.size, 4, none⟩ = some (.int .i64 id) := fun W x hd he e1 e2 => ⟨by rw [← e1]; exact hd.cells 4, by rw [← e2]; exact hd.cells 5, (op_cells ((he.2 _ (Nat.le_refl _) hgw).trans (unhide HPc))).2.2.2.2⟩
        have s0 := hss wC s (unhide HWc) (Eff.refl _ _ _) rfl rfl
        obtain ⟨D, hD⟩ : ∃ D, decide ((nx s.kc s.lc.length) < s.lc.length) = D := ⟨_, rfl⟩
        rw [hD] at hxC hxR
        clear hD
        go_wp2
        refine wp_region_held_drew (S := fun w' => w'.cell? ⟨G, 4, none⟩ = some (.pointer (some ⟨s.C, 0, none⟩)) ∧ w'.cell? ⟨G, 5, none⟩ = some (.pointer (some ⟨s.R, 0, none⟩)) ∧ w'.cell? ⟨w.heap.size, 4, none⟩ = some (.int .i64 id)) (by kernel_rfl) (s0) (fun hHeld => ?_)
        refine wpAnyH_take (i := 0) (oi := { dst := some 148, op := Op.move (Operand.tmp 0), type := 24, pos := "law.go:113", after := #[], guard := none }) (v := ?_) rfl (by kernel_rfl) (by kernel_rfl) (by kernel_rfl) (fun _ _ _ h => h) (Or.inl ⟨by rfl, ?_⟩) (by assumption) ?_
        rotate_left
        · intro wq hSw
          obtain ⟨e4, e5, e6⟩ := hSw
          go_simp
          with_reducible rfl
        simp only [Act.put, List.setIfInBounds_toArray, List.set_cons_zero, List.set_cons_succ]
        refine wpAnyH_take (i := 1) (oi := { dst := some 149, op := Op.nilCheck (Operand.tmp 148), type := 0, pos := "law.go:113", after := #[{ on := 0, ground := Ground.data }], guard := none }) (v := ?_) rfl (by kernel_rfl) (by kernel_rfl) (by kernel_rfl) (fun _ _ _ h => h) (Or.inl ⟨by rfl, ?_⟩) (by assumption) ?_
        rotate_left
        · intro wq hSw
          obtain ⟨e4, e5, e6⟩ := hSw
          go_simp
          with_reducible rfl
        simp only [Act.put, List.setIfInBounds_toArray, List.set_cons_zero, List.set_cons_succ]
        refine wpAnyH_take (i := 2) (oi := { dst := some 150, op := Op.fieldAddr 33 (Operand.tmp 149) 2, type := 0, pos := "law.go:113", after := #[{ on := 1, ground := Ground.data }], guard := none }) (v := ?_) rfl (by kernel_rfl) (by kernel_rfl) (by kernel_rfl) (fun _ _ _ h => h) (Or.inl ⟨by rfl, ?_⟩) (by assumption) ?_
        rotate_left
        · intro wq hSw
          obtain ⟨e4, e5, e6⟩ := hSw
          go_simp
          with_reducible rfl
        simp only [Act.put, List.setIfInBounds_toArray, List.set_cons_zero, List.set_cons_succ]
        refine wpAnyH_take (i := 3) (oi := { dst := some 151, op := Op.load 30 (Operand.tmp 150), type := 30, pos := "law.go:113", after := #[{ on := 2, ground := Ground.data }], guard := none }) (v := ?_) rfl (by kernel_rfl) (by kernel_rfl) (by kernel_rfl) (fun _ _ _ h => h) (Or.inl ⟨by rfl, ?_⟩) (by assumption) ?_
        rotate_left
        · intro wq hSw
          obtain ⟨e4, e5, e6⟩ := hSw
          go_simp
          with_reducible rfl
        simp only [Act.put, List.setIfInBounds_toArray, List.set_cons_zero, List.set_cons_succ]
        refine wpAnyH_take (i := 5) (oi := { dst := some 153, op := Op.move (Operand.tmp 0), type := 24, pos := "law.go:113", after := #[], guard := none }) (v := ?_) rfl (by kernel_rfl) (by kernel_rfl) (by kernel_rfl) (fun _ _ _ h => h) (Or.inl ⟨by rfl, ?_⟩) (by assumption) ?_
        rotate_left
        · intro wq hSw
          obtain ⟨e4, e5, e6⟩ := hSw
          go_simp
          with_reducible rfl
        simp only [Act.put, List.setIfInBounds_toArray, List.set_cons_zero, List.set_cons_succ]
        refine wpAnyH_take (i := 6) (oi := { dst := some 154, op := Op.nilCheck (Operand.tmp 153), type := 0, pos := "law.go:113", after := #[{ on := 5, ground := Ground.data }], guard := none }) (v := ?_) rfl (by kernel_rfl) (by kernel_rfl) (by kernel_rfl) (fun _ _ _ h => h) (Or.inl ⟨by rfl, ?_⟩) (by assumption) ?_
        rotate_left
        · intro wq hSw
          obtain ⟨e4, e5, e6⟩ := hSw
          go_simp
          with_reducible rfl
        simp only [Act.put, List.setIfInBounds_toArray, List.set_cons_zero, List.set_cons_succ]
        refine wpAnyH_take (i := 7) (oi := { dst := some 155, op := Op.fieldAddr 33 (Operand.tmp 154) 3, type := 0, pos := "law.go:113", after := #[{ on := 6, ground := Ground.data }], guard := none }) (v := ?_) rfl (by kernel_rfl) (by kernel_rfl) (by kernel_rfl) (fun _ _ _ h => h) (Or.inl ⟨by rfl, ?_⟩) (by assumption) ?_
        rotate_left
        · intro wq hSw
          obtain ⟨e4, e5, e6⟩ := hSw
          go_simp
          with_reducible rfl
        simp only [Act.put, List.setIfInBounds_toArray, List.set_cons_zero, List.set_cons_succ]
        refine wpAnyH_take (i := 8) (oi := { dst := some 156, op := Op.load 31 (Operand.tmp 155), type := 31, pos := "law.go:113", after := #[{ on := 7, ground := Ground.data }], guard := none }) (v := ?_) rfl (by kernel_rfl) (by kernel_rfl) (by kernel_rfl) (fun _ _ _ h => h) (Or.inl ⟨by rfl, ?_⟩) (by assumption) ?_
        rotate_left
        · intro wq hSw
          obtain ⟨e4, e5, e6⟩ := hSw
          go_simp
          with_reducible rfl
        simp only [Act.put, List.setIfInBounds_toArray, List.set_cons_zero, List.set_cons_succ]
        refine wpAnyH_ready (rs := [4]) (by kernel_rfl) (by simp) ?_
        refine AllReadyH.cons (o := { dst := some 152, op := Op.call { callee := Callee.value (Operand.func 19), args := #[Operand.tmp 151], argTypes := #[30] }, type := 4, pos := "law.go:113", after := #[{ on := 3, ground := Ground.data }], guard := none }) rfl (fun K hK => ?_) ?_
        · go_simp
          refine (hxC wC.drew hszc ((unhide HWc).below (Below.refl _ _).drew)).mono ?_
          rintro e wa ⟨rfl, hda, hea⟩
          have HWa := hide hda
          have HEa := hide (Eff.drew hea)
          have Sa := hss wa _ hda (unhide HEa) rfl rfl
          clear hda hea
          refine hK.out _ _ (Sa) (fun hHeld => ?_)
          clear hK K
          refine wpAnyH_ready (rs := [9]) (by kernel_rfl) (by simp) ?_
          refine AllReadyH.cons (o := { dst := some 157, op := Op.call { callee := Callee.value (Operand.func 29), args := #[Operand.tmp 156], argTypes := #[31] }, type := 4, pos := "law.go:113", after := #[{ on := 8, ground := Ground.data }, { on := 4, ground := Ground.chain }], guard := none }) rfl (fun K hK => ?_) ?_
          · go_simp
            refine (hxR wa (Nat.le_trans hszc (unhide HEa).1.size) (unhide HWa)).mono ?_
            rintro e wb ⟨rfl, hdb, heb⟩
            have HWb := hide hdb
            have HEb := hide ((unhide HEa).trans heb hszc)
            have Sb := hss wb _ hdb (unhide HEb) rfl rfl
            clear hdb heb
            refine hK.out _ _ (Sb) (fun hHeld => ?_)
            clear hK K
            refine wpAnyH_take (i := 10) (oi := { dst := some 158, op := Op.binOp BinOp.eql 4 (Operand.tmp 152) (Operand.tmp 157) 4, type := 4, pos := "law.go:113", after := #[{ on := 4, ground := Ground.data }, { on := 9, ground := Ground.data }], guard := none }) (v := ?_) rfl (by kernel_rfl) (by kernel_rfl) (by kernel_rfl) (fun _ _ _ h => h) (Or.inl ⟨by rfl, ?_⟩) (by assumption) ?_
            rotate_left
            · intro wq hSw
              obtain ⟨e4, e5, e6⟩ := hSw
              go_simp
              with_reducible rfl
            simp only [Act.put, List.setIfInBounds_toArray, List.set_cons_zero, List.set_cons_succ]
            refine wpAnyH_take (i := 11) (oi := { dst := some 10, op := Op.assign (Operand.tmp 158), type := 4, pos := "law.go:113", after := #[{ on := 10, ground := Ground.data }, { on := 9, ground := Ground.chain }, { on := 0, ground := Ground.phase }, { on := 1, ground := Ground.phase }, { on := 2, ground := Ground.phase }, { on := 3, ground := Ground.phase }, { on := 4, ground := Ground.phase }, { on := 5, ground := Ground.phase }, { on := 6, ground := Ground.phase }, { on := 7, ground := Ground.phase }, { on := 8, ground := Ground.phase }, { on := 9, ground := Ground.phase }, { on := 10, ground := Ground.phase }], guard := none }) (v := ?_) rfl (by kernel_rfl) (by kernel_rfl) (by kernel_rfl) (fun _ _ _ h => h) (Or.inl ⟨by rfl, ?_⟩) (by assumption) ?_
            rotate_left
            · intro wq hSw
              obtain ⟨e4, e5, e6⟩ := hSw
              go_simp
              with_reducible rfl
            simp only [Act.put, List.setIfInBounds_toArray, List.set_cons_zero, List.set_cons_succ]
            refine wpAnyH_done (by kernel_rfl) ?_ _
            have DD : (D == D) = true := by simp
            go_wp2
            go_meet
            exact ⟨by simp, _, unhide HWb, hml, rfl, ⟨fun _ => Nat.le_add_right _ _, Or.inl rfl⟩, unhide HEb⟩
          exact AllReadyH.nil
        exact AllReadyH.nil
      by_cases k7 : kind = 7
      · subst k7
        clear k1 k2 k3 k4 k5 k6
        have hxC : ∀ (W : World), w.heap.size ≤ W.heap.size → Wd B W G s → Calls Try.prog 16 #[.pointer (some ⟨s.C, 0, none⟩), .int .i64 id] W fun e w' => e = .returned (.bool (decide ((s.kc + cnt (ltD id) (s.lc.drop s.kc)) < s.lc.length))) ∧ Wd B w' G { s with kc := (s.kc + cnt (ltD id) (s.lc.drop s.kc)) } ∧ Eff B w.heap.size W w' := fun W hW hd =>
          (skipC s.C s.qc s.capc s.kc s.lc id W hd.cur hd.curl hd.curb hd.curs hd.kcl (by omega)).mono fun e w' ⟨he, hc, hg⟩ => ⟨he, hd.moveC (skip_lef hd.kcl) hc hg, eff_of hg hd.lowC hCl (Nat.le_trans hB hW)⟩
        have hxR : ∀ (W : World), w.heap.size ≤ W.heap.size → Wd B W G { s with kc := (s.kc + cnt (ltD id) (s.lc.drop s.kc)) } → Calls Try.prog 30 #[.pointer (some ⟨s.R, 0, none⟩), .int .i64 id] W fun e w' => e = .returned (.bool (decide ((s.kc + cnt (ltD id) (s.lc.drop s.kc)) < s.lc.length))) ∧ Wd B w' G { s with kc := (s.kc + cnt (ltD id) (s.lc.drop s.kc)), kr := (s.kc + cnt (ltD id) (s.lc.drop s.kc)) } ∧ Eff B w.heap.size W w' := fun W hW hd =>
          (show Calls Try.prog 30 _ W _ from hkk ▸ skipR s.R s.pr s.cr s.kr s.lc id W hd.rc hd.rcl hd.krl (by omega)).mono fun e w' ⟨he, hc, hg⟩ => ⟨he, hd.moveR (hkk ▸ skip_lef hd.krl) hc hg, eff_of hg hd.lowR hRl (Nat.le_trans hB hW)⟩
        have hss : ∀ (W : World) (x : St), Wd B W G x → Eff B w.heap.size wC W → x.C = s.C → x.R = s.R → W.cell? ⟨G, 4, none⟩ = some (.pointer (some ⟨s.C, 0, none⟩)) ∧ W.cell? ⟨G, 5, none⟩ = some (.pointer (some ⟨s.R, 0, none⟩)) ∧ W.cell? ⟨w.heap.size, 4, none⟩ = some (.int .i64 id) := fun W x hd he e1 e2 => ⟨by rw [← e1]; exact hd.cells 4, by rw [← e2]; exact hd.cells 5, (op_cells ((he.2 _ (Nat.le_refl _) hgw).trans (unhide HPc))).2.2.2.2⟩
        have s0 := hss wC s (unhide HWc) (Eff.refl _ _ _) rfl rfl
        obtain ⟨D, hD⟩ : ∃ D, decide ((s.kc + cnt (ltD id) (s.lc.drop s.kc)) < s.lc.length) = D := ⟨_, rfl⟩
        rw [hD] at hxC hxR
        clear hD
        go_wp2
        refine wp_region_held_drew (S := fun w' => w'.cell? ⟨G, 4, none⟩ = some (.pointer (some ⟨s.C, 0, none⟩)) ∧ w'.cell? ⟨G, 5, none⟩ = some (.pointer (some ⟨s.R, 0, none⟩)) ∧ w'.cell? ⟨w.heap.size, 4, none⟩ = some (.int .i64 id)) (by kernel_rfl) (s0) (fun hHeld => ?_)
        refine wpAnyH_take (i := 0) (oi := { dst := some 161, op := Op.move (Operand.tmp 0), type := 24, pos := "law.go:115", after := #[], guard := none }) (v := ?_) rfl (by kernel_rfl) (by kernel_rfl) (by kernel_rfl) (fun _ _ _ h => h) (Or.inl ⟨by rfl, ?_⟩) (by assumption) ?_
        rotate_left
        · intro wq hSw
          obtain ⟨e4, e5, e6⟩ := hSw
          go_simp
          with_reducible rfl
        simp only [Act.put, List.setIfInBounds_toArray, List.set_cons_zero, List.set_cons_succ]
        refine wpAnyH_take (i := 1) (oi := { dst := some 162, op := Op.nilCheck (Operand.tmp 161), type := 0, pos := "law.go:115", after := #[{ on := 0, ground := Ground.data }], guard := none }) (v := ?_) rfl (by kernel_rfl) (by kernel_rfl) (by kernel_rfl) (fun _ _ _ h => h) (Or.inl ⟨by rfl, ?_⟩) (by assumption) ?_
        rotate_left
        · intro wq hSw
          obtain ⟨e4, e5, e6⟩ := hSw
          go_simp
          with_reducible rfl
        simp only [Act.put, List.setIfInBounds_toArray, List.set_cons_zero, List.set_cons_succ]
        refine wpAnyH_take (i := 2) (oi := { dst := some 163, op := Op.fieldAddr 33 (Operand.tmp 162) 2, type := 0, pos := "law.go:115", after := #[{ on := 1, ground := Ground.data }], guard := none }) (v := ?_) rfl (by kernel_rfl) (by kernel_rfl) (by kernel_rfl) (fun _ _ _ h => h) (Or.inl ⟨by rfl, ?_⟩) (by assumption) ?_
        rotate_left
        · intro wq hSw
          obtain ⟨e4, e5, e6⟩ := hSw
          go_simp
          with_reducible rfl
        simp only [Act.put, List.setIfInBounds_toArray, List.set_cons_zero, List.set_cons_succ]
        refine wpAnyH_take (i := 3) (oi := { dst := some 164, op := Op.load 30 (Operand.tmp 163), type := 30, pos := "law.go:115", after := #[{ on := 2, ground := Ground.data }], guard := none }) (v := ?_) rfl (by kernel_rfl) (by kernel_rfl) (by kernel_rfl) (fun _ _ _ h => h) (Or.inl ⟨by rfl, ?_⟩) (by assumption) ?_
        rotate_left
        · intro wq hSw
          obtain ⟨e4, e5, e6⟩ := hSw
          go_simp
          with_reducible rfl
        simp only [Act.put, List.setIfInBounds_toArray, List.set_cons_zero, List.set_cons_succ]
        refine wpAnyH_take (i := 4) (oi := { dst := some 165, op := Op.fieldAddr 39 (Operand.tmp 3) 4, type := 0, pos := "law.go:115", after := #[], guard := none }) (v := ?_) rfl (by kernel_rfl) (by kernel_rfl) (by kernel_rfl) (fun _ _ _ h => h) (Or.inl ⟨by rfl, ?_⟩) (by assumption) ?_
        rotate_left
        · intro wq hSw
          obtain ⟨e4, e5, e6⟩ := hSw
          go_simp
          with_reducible rfl
        simp only [Act.put, List.setIfInBounds_toArray, List.set_cons_zero, List.set_cons_succ]
        refine wpAnyH_take (i := 5) (oi := { dst := some 166, op := Op.load 3 (Operand.tmp 165), type := 3, pos := "law.go:115", after := #[{ on := 4, ground := Ground.data }], guard := none }) (v := ?_) rfl (by kernel_rfl) (by kernel_rfl) (by kernel_rfl) (fun _ _ _ h => h) (Or.inl ⟨by rfl, ?_⟩) (by assumption) ?_
        rotate_left
        · intro wq hSw
          obtain ⟨e4, e5, e6⟩ := hSw
          go_simp
          with_reducible rfl
        simp only [Act.put, List.setIfInBounds_toArray, List.set_cons_zero, List.set_cons_succ]
        refine wpAnyH_take (i := 7) (oi := { dst := some 168, op := Op.move (Operand.tmp 0), type := 24, pos := "law.go:115", after := #[], guard := none }) (v := ?_) rfl (by kernel_rfl) (by kernel_rfl) (by kernel_rfl) (fun _ _ _ h => h) (Or.inl ⟨by rfl, ?_⟩) (by assumption) ?_
        rotate_left
        · intro wq hSw
          obtain ⟨e4, e5, e6⟩ := hSw
          go_simp
          with_reducible rfl
        simp only [Act.put, List.setIfInBounds_toArray, List.set_cons_zero, List.set_cons_succ]
        refine wpAnyH_take (i := 8) (oi := { dst := some 169, op := Op.nilCheck (Operand.tmp 168), type := 0, pos := "law.go:115", after := #[{ on := 7, ground := Ground.data }], guard := none }) (v := ?_) rfl (by kernel_rfl) (by kernel_rfl) (by kernel_rfl) (fun _ _ _ h => h) (Or.inl ⟨by rfl, ?_⟩) (by assumption) ?_
        rotate_left
        · intro wq hSw
          obtain ⟨e4, e5, e6⟩ := hSw
          go_simp
          with_reducible rfl
        simp only [Act.put, List.setIfInBounds_toArray, List.set_cons_zero, List.set_cons_succ]
        refine wpAnyH_take (i := 9) (oi := { dst := some 170, op := Op.fieldAddr 33 (Operand.tmp 169) 3, type := 0, pos := "law.go:115", after := #[{ on := 8, ground := Ground.data }], guard := none }) (v := ?_) rfl (by kernel_rfl) (by kernel_rfl) (by kernel_rfl) (fun _ _ _ h => h) (Or.inl ⟨by rfl, ?_⟩) (by assumption) ?_
        rotate_left
        · intro wq hSw
          obtain ⟨e4, e5, e6⟩ := hSw
          go_simp
          with_reducible rfl
        simp only [Act.put, List.setIfInBounds_toArray, List.set_cons_zero, List.set_cons_succ]
        refine wpAnyH_take (i := 10) (oi := { dst := some 171, op := Op.load 31 (Operand.tmp 170), type := 31, pos := "law.go:115", after := #[{ on := 9, ground := Ground.data }], guard := none }) (v := ?_) rfl (by kernel_rfl) (by kernel_rfl) (by kernel_rfl) (fun _ _ _ h => h) (Or.inl ⟨by rfl, ?_⟩) (by assumption) ?_
        rotate_left
        · intro wq hSw
          obtain ⟨e4, e5, e6⟩ := hSw
          go_simp
          with_reducible rfl
        simp only [Act.put, List.setIfInBounds_toArray, List.set_cons_zero, List.set_cons_succ]
        refine wpAnyH_take (i := 11) (oi := { dst := some 172, op := Op.fieldAddr 39 (Operand.tmp 3) 4, type := 0, pos := "law.go:115", after := #[], guard := none }) (v := ?_) rfl (by kernel_rfl) (by kernel_rfl) (by kernel_rfl) (fun _ _ _ h => h) (Or.inl ⟨by rfl, ?_⟩) (by assumption) ?_
        rotate_left
        · intro wq hSw
          obtain ⟨e4, e5, e6⟩ := hSw
          go_simp
          with_reducible rfl
        simp only [Act.put, List.setIfInBounds_toArray, List.set_cons_zero, List.set_cons_succ]
        refine wpAnyH_take (i := 12) (oi := { dst := some 173, op := Op.load 3 (Operand.tmp 172), type := 3, pos := "law.go:115", after := #[{ on := 11, ground := Ground.data }], guard := none }) (v := ?_) rfl (by kernel_rfl) (by kernel_rfl) (by kernel_rfl) (fun _ _ _ h => h) (Or.inl ⟨by rfl, ?_⟩) (by assumption) ?_
        rotate_left
        · intro wq hSw
          obtain ⟨e4, e5, e6⟩ := hSw
          go_simp
          with_reducible rfl
        simp only [Act.put, List.setIfInBounds_toArray, List.set_cons_zero, List.set_cons_succ]
        refine wpAnyH_ready (rs := [6]) (by kernel_rfl) (by simp) ?_
        refine AllReadyH.cons (o := { dst := some 167, op := Op.call { callee := Callee.value (Operand.func 16), args := #[Operand.tmp 164, Operand.tmp 166], argTypes := #[30, 3] }, type := 4, pos := "law.go:115", after := #[{ on := 3, ground := Ground.data }, { on := 5, ground := Ground.data }], guard := none }) rfl (fun K hK => ?_) ?_
        · go_simp
          refine (hxC wC.drew hszc ((unhide HWc).below (Below.refl _ _).drew)).mono ?_
          rintro e wa ⟨rfl, hda, hea⟩
          have HWa := hide hda
          have HEa := hide (Eff.drew hea)
          have Sa := hss wa _ hda (unhide HEa) rfl rfl
          clear hda hea
          refine hK.out _ _ (Sa) (fun hHeld => ?_)
          clear hK K
          refine wpAnyH_ready (rs := [13]) (by kernel_rfl) (by simp) ?_
          refine AllReadyH.cons (o := { dst := some 174, op := Op.call { callee := Callee.value (Operand.func 30), args := #[Operand.tmp 171, Operand.tmp 173], argTypes := #[31, 3] }, type := 4, pos := "law.go:115", after := #[{ on := 10, ground := Ground.data }, { on := 12, ground := Ground.data }, { on := 6, ground := Ground.chain }], guard := none }) rfl (fun K hK => ?_) ?_
          · go_simp
            refine (hxR wa (Nat.le_trans hszc (unhide HEa).1.size) (unhide HWa)).mono ?_
            rintro e wb ⟨rfl, hdb, heb⟩
            have HWb := hide hdb
            have HEb := hide ((unhide HEa).trans heb hszc)
            have Sb := hss wb _ hdb (unhide HEb) rfl rfl
            clear hdb heb
            refine hK.out _ _ (Sb) (fun hHeld => ?_)
            clear hK K
            refine wpAnyH_take (i := 14) (oi := { dst := some 175, op := Op.binOp BinOp.eql 4 (Operand.tmp 167) (Operand.tmp 174) 4, type := 4, pos := "law.go:115", after := #[{ on := 6, ground := Ground.data }, { on := 13, ground := Ground.data }], guard := none }) (v := ?_) rfl (by kernel_rfl) (by kernel_rfl) (by kernel_rfl) (fun _ _ _ h => h) (Or.inl ⟨by rfl, ?_⟩) (by assumption) ?_
            rotate_left
            · intro wq hSw
              obtain ⟨e4, e5, e6⟩ := hSw
              go_simp
              with_reducible rfl
            simp only [Act.put, List.setIfInBounds_toArray, List.set_cons_zero, List.set_cons_succ]
            refine wpAnyH_take (i := 15) (oi := { dst := some 10, op := Op.assign (Operand.tmp 175), type := 4, pos := "law.go:115", after := #[{ on := 14, ground := Ground.data }, { on := 13, ground := Ground.chain }, { on := 0, ground := Ground.phase }, { on := 1, ground := Ground.phase }, { on := 2, ground := Ground.phase }, { on := 3, ground := Ground.phase }, { on := 4, ground := Ground.phase }, { on := 5, ground := Ground.phase }, { on := 6, ground := Ground.phase }, { on := 7, ground := Ground.phase }, { on := 8, ground := Ground.phase }, { on := 9, ground := Ground.phase }, { on := 10, ground := Ground.phase }, { on := 11, ground := Ground.phase }, { on := 12, ground := Ground.phase }, { on := 13, ground := Ground.phase }, { on := 14, ground := Ground.phase }], guard := none }) (v := ?_) rfl (by kernel_rfl) (by kernel_rfl) (by kernel_rfl) (fun _ _ _ h => h) (Or.inl ⟨by rfl, ?_⟩) (by assumption) ?_
            rotate_left
            · intro wq hSw
              obtain ⟨e4, e5, e6⟩ := hSw
              go_simp
              with_reducible rfl
            simp only [Act.put, List.setIfInBounds_toArray, List.set_cons_zero, List.set_cons_succ]
            refine wpAnyH_done (by kernel_rfl) ?_ _
            have DD : (D == D) = true := by simp
            go_wp2
            go_meet
            exact ⟨by simp, _, unhide HWb, hml, rfl, ⟨fun _ => Nat.le_add_right _ _, Or.inl rfl⟩, unhide HEb⟩
          exact AllReadyH.nil
        exact AllReadyH.nil
      have q1 : (kind == 1) = false := by simpa using k1
      have q2 : (kind == 2) = false := by simpa using k2
      have q3 : (kind == 3) = false := by simpa using k3
      have q4 : (kind == 4) = false := by simpa using k4
      have q5 : (kind == 5) = false := by simpa using k5
      have q6 : (kind == 6) = false := by simpa using k6
      have q7 : (kind == 7) = false := by simpa using k7
      go_wp2
      go_meet
      exact ⟨rfl, s, unhide HWc, hml, hkk, Grew.refl _ _, Eff.refl _ _ _⟩
    case rest =>
      obtain ⟨rfl, s', hwd, hm', hk', hgr, hef⟩ := hcut
      have hlc' : s'.lc.length ≤ 100000000000000 := by
        rcases hgr.2 with e | ⟨b, e⟩
        · rw [e]; omega
        · rw [e]; have := hll b; omega
      obtain ⟨p0', p1', p2', p3', p4'⟩ := op_cells ((hef.2 _ (Nat.le_refl _) hgw).trans (unhide HPc))
      have hszd := hef.1.size
      have HBd := hide (((unhide HBc).mono hB).trans hef.1)
      have HNa := hide ((unhide HMa).eff hef hsz1)
      have HNb := hide ((unhide HMb).eff hef hsz1)
      have c4 := hwd.cells 4
      have c5 := hwd.cells 5
      simp [cellsOf] at c4 c5
      have HWD := hide hwd
      have HG := hide hgr
      have HK := hide hk'
      have HM := hide hm'
      clear hwd hef hgr hk' hm' p0 p1 p2 p3 p4
      have hk31 : ∀ W, Below wc.heap.size wc W → Calls Try.prog 31 #[.slice (some ⟨ga, 0, none⟩) ps.length ca, .slice pp ps.length cp] W fun e w' => e = .returned (.bool true) ∧ Below W.heap.size W w' := fun W hW =>
        have hm := (unhide HNa).below hW
        keptP ga ca pp cp ps W (by omega) hm.1.ls.2.2.2 hm.2 hm.1.ls.2.2.1 (hps W ((unhide HBd).trans (hW.mono (Nat.le_trans hBc hszd))))
      have hk32 : ∀ W, Below wc.heap.size wc W → Calls Try.prog 32 #[.slice (some ⟨gb, 0, none⟩) is.length cb, .slice pi is.length ci] W fun e w' => e = .returned (.bool true) ∧ Below W.heap.size W w' := fun W hW =>
        have hm := (unhide HNb).below hW
        keptI gb cb pi ci is W (by omega) hm.1.ls.2.2.2 hm.2 hm.1.ls.2.2.1 (his W ((unhide HBd).trans (hW.mono (Nat.le_trans hBc hszd))))
      have hk33 : ∀ W, Below wc.heap.size wc W → Calls Try.prog 33 #[.pointer (some ⟨s'.C, 0, none⟩), .pointer (some ⟨s'.R, 0, none⟩)] W fun e w' => e = .returned (.bool true) ∧ Below W.heap.size W w' := fun W hW =>
        have hd := (unhide HWD).below hW
        standsC s'.C s'.R s'.qc s'.pr s'.capc s'.cr s'.kc s'.lc W hd.cur ((unhide HK) ▸ hd.rc) hd.curl hd.rcl hd.kcl hlc'
      have t2 := cell_regrown p2'
      have t3 := cell_regrown p3'
      have t4 := cell_regrown c4
      have t5 := cell_regrown c5
      clear p0' p1' p2' p3' p4' c4 c5
      go_wp2
      refine wp_region_quiet_below (by assumption) (by kernel_rfl) ?_
      repeat (go_big_quiet_step (first
        | (go_at_fn 31; refine Calls.regrown_of (hk31 _ (below_regrown _ _ _)))
        | (go_at_fn 32; refine Calls.regrown_of (hk32 _ (below_regrown _ _ _)))
        | (go_at_fn 33; refine Calls.regrown_of (hk33 _ (below_regrown _ _ _)))))
      refine wpQuiet_nil ?_
      intro w4 hw'
      obtain ⟨⟨dq2, osq2⟩, hw''⟩ := hw'
      have b4 := below_regrown wc dq2 osq2
      dsimp only at hw''
      rw [← hw''] at b4
      have HW4 := hide ((unhide HWD).below b4)
      have HB4 := hide ((unhide HBd).trans (b4.mono (Nat.le_trans hBc hszd)))
      clear hw'' b4 t2 t3 t4 t5 hk31 hk32 hk33
      go_wp2
      go_ret
      exact ⟨rfl, s', unhide HW4, unhide HM, unhide HK, unhide HB4, unhide HG⟩
end Go.Proofs.Ytelgpmjafaopmaa
