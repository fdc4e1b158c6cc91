/- The law PushLeaves returns true, whatever tree of bounded weight it is given. -/
import Derived.Test.YtppkjlmdfcifgaaPushLv
import Derived.Test.YtppkjlmdfcifgaaPushWidths
import Derived.Deep.RegionHeld3
namespace Go.Proofs.Ytppkjlmdfcifgaa
open Go.RowKit Go.Sort

theorem samePd (u1 u2 : Nv) (p : Pd) (w : World) (h1 : PdIn w u1 p) (h2 : PdIn w u2 p) (l1 : p.ints.length ≤ 1000000000) (l2 : p.words.length ≤ 1000000000) :
    Calls Try.prog 68 #[.agg #[.int .i64 u1.kind, .string u1.attr, .slice u1.qi u1.ni u1.ci, .slice u1.qw u1.nw u1.cw, .int .i64 u1.lo, .int .i64 u1.hi], .agg #[.int .i64 u2.kind, .string u2.attr, .slice u2.qi u2.ni u2.ci, .slice u2.qw u2.nw u2.cw, .int .i64 u2.lo, .int .i64 u2.hi]] w fun e w' => e = .returned (.bool true) ∧ Below w.heap.size w w' := by
  obtain ⟨a1, a2, a3, a4, a5, a6, a7, a8⟩ := h1
  obtain ⟨b1, b2, b3, b4, b5, b6, b7, b8⟩ := h2
  rw [a1, a2, a3, a4, a5, a6, b1, b2, b3, b4, b5, b6]
  exact samePred_eq p.kind p.attr p.ints p.words p.lo p.hi u1.qi u1.ci u1.qw u1.cw u2.qi u2.ci u2.qw u2.cw w a7 b7 a8 b8 (by omega) (by omega)
set_option maxRecDepth 100000 in
set_option maxHeartbeats 4000000 in
theorem samePreds_eq (q1 : Option Addr) (c1 : Nat) (us1 : List Nv) (q2 : Option Addr) (c2 : Nat) (us2 : List Nv) (ps : List Pd) (w : World) (h1 : SlOf encD 6 w q1 c1 us1) (h2 : SlOf encD 6 w q2 c2 us2) (p1 : PdsIn w us1 ps) (p2 : PdsIn w us2 ps) (hb : ∀ p ∈ ps, p.ints.length ≤ 1000000000 ∧ p.words.length ≤ 1000000000) (hl : ps.length ≤ 1000000000) :
    Calls Try.prog 51 #[.slice q1 us1.length c1, .slice q2 us2.length c2] w fun e w' => e = .returned (.bool true) ∧ Below w.heap.size w w' := by
  have mixed : Try.prog.follows .mixedOrders = true := by kernel_rfl
  have en68 : ∀ args w, (callFunc 68 args).run Try.prog w = .ok (.enter 68 args) w := enters_of Try.func68 (by kernel_rfl) rfl
  have e2 : us2.length = us1.length := by rw [p1.1, p2.1]
  rw [e2]
  obtain ⟨n, hn⟩ : ∃ n, us1.length = n := ⟨_, rfl⟩
  rw [hn]
  have hn2 : us2.length = n := by omega
  have hnp : ps.length = n := by rw [← p1.1]; exact hn
  have a0 : (n : Int) ≤ 1000000000 := by omega
  have HN := hide (And.intro hn (And.intro hn2 hnp))
  have H1 := hide h1
  have H2 := hide h2
  have P1 := hide p1
  have P2 := hide p2
  have HBB := hide hb
  have nne : ((n : Int) != (n : Int)) = false := by simp
  clear h1 h2 p1 p2 hb hl e2 hn hn2 hnp
  go_enter Try.func51, Try.ntmps51
  go_wp2
  go_loopw [13] (fun i wr => ∃ k : Nat, k ≤ n ∧ i = .int .i64 k ∧ Below w.heap.size w wr) (fun i _ => n - (intOf i).toNat)
  case atStart => exact ⟨0, by omega, rfl, Below.refl _ _⟩
  case round =>
    obtain ⟨k, hkk, rfl, hbel⟩ := hrel
    have HB := hide hbel
    by_cases hlt : k < n
    · obtain ⟨u1, hu1, _⟩ := get_at (l := us1) (k := k) (by have := (unhide HN).1; omega)
      obtain ⟨u2, hu2, _⟩ := get_at (l := us2) (k := k) (by have := (unhide HN).2.1; omega)
      obtain ⟨p, hp, _⟩ := get_at (l := ps) (k := k) (by have := (unhide HN).2.2; omega)
      obtain ⟨b1, off1, hq1, lb1, d1c0, d1c1, d1c2, d1c3, d1c4, d1c5⟩ := predsAt (unhide H1) hu1
      obtain ⟨b2, off2, hq2, lb2, d2c0, d2c1, d2c2, d2c3, d2c4, d2c5⟩ := predsAt (unhide H2) hu2
      subst hq1
      subst hq2
      have hpb := unhide HBB p (List.mem_of_getElem? hp)
      have hs := fun (m : Nat) (os : Array Obj) => samePd u1 u2 p (grow (redrawn wr m) os) (((unhide P1).2 k u1 p hu1 hp).keep (below_sub hbel (below_regrown wr m os))) (((unhide P2).2 k u2 p hu2 hp).keep (below_sub hbel (below_regrown wr m os))) hpb.1 hpb.2
      have ki0 : (0 : Int) ≤ (k : Int) := by omega
      have ki1 : (k : Int) < (n : Int) := by omega
      have d10 : ∀ n os, (grow (redrawn wr n) os).cell? ⟨b1, off1 + k * 6, none⟩ = some (.int .i64 u1.kind) := cell_regrown ((hbel.cell (p := ⟨b1, off1 + k * 6, none⟩) lb1).trans d1c0)
      have d11 : ∀ n os, (grow (redrawn wr n) os).cell? ⟨b1, off1 + k * 6 + 1, none⟩ = some (.string u1.attr) := cell_regrown ((hbel.cell (p := ⟨b1, off1 + k * 6 + 1, none⟩) lb1).trans d1c1)
      have d12 : ∀ n os, (grow (redrawn wr n) os).cell? ⟨b1, off1 + k * 6 + 2, none⟩ = some (.slice u1.qi u1.ni u1.ci) := cell_regrown ((hbel.cell (p := ⟨b1, off1 + k * 6 + 2, none⟩) lb1).trans d1c2)
      have d13 : ∀ n os, (grow (redrawn wr n) os).cell? ⟨b1, off1 + k * 6 + 3, none⟩ = some (.slice u1.qw u1.nw u1.cw) := cell_regrown ((hbel.cell (p := ⟨b1, off1 + k * 6 + 3, none⟩) lb1).trans d1c3)
      have d14 : ∀ n os, (grow (redrawn wr n) os).cell? ⟨b1, off1 + k * 6 + 4, none⟩ = some (.int .i64 u1.lo) := cell_regrown ((hbel.cell (p := ⟨b1, off1 + k * 6 + 4, none⟩) lb1).trans d1c4)
      have d15 : ∀ n os, (grow (redrawn wr n) os).cell? ⟨b1, off1 + k * 6 + 5, none⟩ = some (.int .i64 u1.hi) := cell_regrown ((hbel.cell (p := ⟨b1, off1 + k * 6 + 5, none⟩) lb1).trans d1c5)
      have d20 : ∀ n os, (grow (redrawn wr n) os).cell? ⟨b2, off2 + k * 6, none⟩ = some (.int .i64 u2.kind) := cell_regrown ((hbel.cell (p := ⟨b2, off2 + k * 6, none⟩) lb2).trans d2c0)
      have d21 : ∀ n os, (grow (redrawn wr n) os).cell? ⟨b2, off2 + k * 6 + 1, none⟩ = some (.string u2.attr) := cell_regrown ((hbel.cell (p := ⟨b2, off2 + k * 6 + 1, none⟩) lb2).trans d2c1)
      have d22 : ∀ n os, (grow (redrawn wr n) os).cell? ⟨b2, off2 + k * 6 + 2, none⟩ = some (.slice u2.qi u2.ni u2.ci) := cell_regrown ((hbel.cell (p := ⟨b2, off2 + k * 6 + 2, none⟩) lb2).trans d2c2)
      have d23 : ∀ n os, (grow (redrawn wr n) os).cell? ⟨b2, off2 + k * 6 + 3, none⟩ = some (.slice u2.qw u2.nw u2.cw) := cell_regrown ((hbel.cell (p := ⟨b2, off2 + k * 6 + 3, none⟩) lb2).trans d2c3)
      have d24 : ∀ n os, (grow (redrawn wr n) os).cell? ⟨b2, off2 + k * 6 + 4, none⟩ = some (.int .i64 u2.lo) := cell_regrown ((hbel.cell (p := ⟨b2, off2 + k * 6 + 4, none⟩) lb2).trans d2c4)
      have d25 : ∀ n os, (grow (redrawn wr n) os).cell? ⟨b2, off2 + k * 6 + 5, none⟩ = some (.int .i64 u2.hi) := cell_regrown ((hbel.cell (p := ⟨b2, off2 + k * 6 + 5, none⟩) lb2).trans d2c5)
      clear d1c0 d1c1 d1c2 d1c3 d1c4 d1c5 d2c0 d2c1 d2c2 d2c3 d2c4 d2c5 hu1 hu2 hp hpb hbel
      go_wp2
      refine wp_region_quiet_below (by assumption) (by kernel_rfl) ?_
      repeat (go_big_quiet_step (first | (go_at_fn 68; refine Calls.regrown_of (hs _ _))))
      refine wpQuiet_nil ?_
      intro _ hw'
      obtain ⟨⟨dq, osq⟩, hw''⟩ := hw'
      subst hw''
      clear hs
      go_wp2
      go_roundw
      case rel => exact ⟨k + 1, by omega, by go_num, below_sub (unhide HB) (below_regrown wr dq osq)⟩
      case measure => simp [intOf]; omega
    · have hkl : k = n := by omega
      subst hkl
      have ki1 : ¬ (k : Int) < (k : Int) := by omega
      clear hbel
      go_wp2
      go_ret
      exact ⟨rfl, unhide HB⟩
theorem lv_bound : ∀ (t : Nd), ∀ p ∈ lvN t, p.ints.length ≤ wtN t ∧ p.words.length ≤ wtN t := by
  intro t
  induction t using Nd.ind with
  | h kind attr ints words lo hi op kids ih =>
    intro p hp
    simp only [lvN] at hp
    by_cases h : op = 1
    · rw [if_pos h] at hp
      obtain rfl := List.mem_singleton.1 hp
      have := words_len words
      simp only [wtN]; omega
    · rw [if_neg h] at hp
      have hL : ∀ (l : List Nd), (∀ x ∈ l, ∀ p ∈ lvN x, p.ints.length ≤ wtN x ∧ p.words.length ≤ wtN x) → ∀ p ∈ lvL l, p.ints.length ≤ wtL l ∧ p.words.length ≤ wtL l := by
        intro l hl
        induction l with
        | nil => intro p hp; simp [lvL] at hp
        | cons x l ih2 =>
          intro p hp
          simp only [lvL, List.mem_append] at hp
          simp only [wtL]
          rcases hp with hp | hp
          · have := hl x (by simp) p hp; omega
          · have := ih2 (fun y hy => hl y (by simp [hy])) p hp; omega
      have := hL kids ih p hp
      simp only [wtN]; omega
set_option maxRecDepth 100000 in
set_option maxHeartbeats 8000000 in
theorem pushLeaves_any (x : Nd) (v : Nv) (w : World) (hin : NdIn w v x) (hwt : wtN x ≤ 100000000) :
    Calls Try.prog 10 #[v.val] w fun e w' => e = .returned (.bool true) ∧ Below w.heap.size w w' := by
  have mixed : Try.prog.follows .mixedOrders = true := by kernel_rfl
  obtain ⟨X, HX⟩ : ∃ X, w.alloc (.cells #[.int .i64 v.kind, .string v.attr, .slice v.qi v.ni v.ci, .slice v.qw v.nw v.cw, .int .i64 v.lo, .int .i64 v.hi, .int .i64 v.op, .slice v.qk v.nk v.ck] 31) = X := ⟨_, rfl⟩
  have hX0 : X.heap[w.heap.size]? = some (.cells #[.int .i64 v.kind, .string v.attr, .slice v.qi v.ni v.ci, .slice v.qw v.nw v.cw, .int .i64 v.lo, .int .i64 v.hi, .int .i64 v.op, .slice v.qk v.nk v.ck] 31 (0, 0)) := by rw [← HX]; exact box_nw _ _
  have hwX : Below w.heap.size w X := by rw [← HX]; exact (Below.refl _ _).alloc (Nat.le_refl _) _
  have hz0 := heap_lt hX0
  have hfx := fixed7_any X
  have HX0 := hide hX0
  have HWX := hide hwX
  have HIN := hide (hin.keep hwX)
  simp only [Nv.val]
  cases hc : chkN x
  · have hP := fun (W : World) (hW : Below X.heap.size X W) => push_any x v W ((hin.keep hwX).keep hW) (by omega)
    rw [hc, show code false = 1 from rfl] at hP
    have hR := fun (W : World) (hW : Below X.heap.size X W) => rchk_any x v W ((hin.keep hwX).keep hW) (by omega)
    rw [hc] at hR
    simp only [Nv.val] at hP hR
    clear hin hX0 hwX hc
    go_enter Try.func10, Try.ntmps10
    go_wp2_with (first
      | (go_at_call 35; refine hfx.mono ?_; rintro e w1 ⟨rfl, b1⟩; obtain ⟨s0, s1, s2, s3, s4, s5, s6, s7⟩ := of8' ((b1.block _ hz0).trans (unhide HX0)); have B1 := hide b1; clear b1)
      | (go_at_call 36; refine (hP _ (unhide B1)).mono ?_; rintro e w2 ⟨⟨um, rfl, hu⟩, b2⟩; have B2 := hide (below_sub (unhide B1) b2); clear s0 s1 s2 s3 s4 s5 s6 s7; obtain ⟨s0, s1, s2, s3, s4, s5, s6, s7⟩ := of8' (((unhide B2).block _ hz0).trans (unhide HX0)); have zl : w.heap.size < w2.heap.size := (Nat.lt_of_lt_of_le hz0 (unhide B2).size); clear hu b2)
      | (go_at_call 31; refine (hR _ (below_sub (unhide B2) ((Below.refl _ _).alloc (Nat.le_refl _) _))).mono ?_; rintro e w3 ⟨rfl, b3⟩; have B3 := hide (below_sub (below_sub (unhide B2) ((Below.refl _ _).alloc (Nat.le_refl _) _)) b3); clear b3))
    go_ret
    exact ⟨ret_bool (by simp), below_sub (unhide HWX) (unhide B3)⟩
  · obtain ⟨D, hD⟩ : ∃ D, downN x false = D := ⟨_, rfl⟩
    have wD : wtN D ≤ 200000000 := by have := wt_down x false hc; rw [hD] at this; omega
    have cD : chkN D = true := by rw [← hD]; exact chk_down x false hc
    have lD : lvN D = lvN x := by rw [← hD]; exact lv_down x false hc
    have dD : depN D ≤ depN x := by have := dep_down x false hc; rw [hD] at this; simpa using this
    have hP1 := fun (W : World) (hW : NdIn W v x) => push_ok x v W hW hc (by omega)
    rw [hD] at hP1
    obtain ⟨g, hg⟩ : ∃ g, widN 64 D = g := ⟨_, rfl⟩
    have g1 : 1 ≤ g := by have := wid_min (m := 64) (by omega) (by omega) D cD; omega
    have hW := fun (W : World) (hW : NdIn W v x) => width_ok 64 (by omega) (by omega) v x g W hW (okT_of hc (by omega) (by rw [hD]; exact hg))
    have hdm := fun (u : Nv) (W : World) (hW : NdIn W u D) => depth_any D u W hW (Nat.le_trans (size_wt D) (by omega))
    have hdx := fun (W : World) (hW : NdIn W v x) => depth_any x v W hW (Nat.le_trans (size_wt x) (by omega))
    have hcm := fun (u : Nv) (W : World) (hW : NdIn W u D) => checkT_any D u W hW (by omega)
    rw [cD, show code true = 0 from rfl] at hcm
    have hsp := fun (q1 : Option Addr) (c1 : Nat) (us1 : List Nv) (q2 : Option Addr) (c2 : Nat) (us2 : List Nv) (W : World) (h1 : SlOf encD 6 W q1 c1 us1) (h2 : SlOf encD 6 W q2 c2 us2) (p1 : PdsIn W us1 (lvN x)) (p2 : PdsIn W us2 (lvN x)) => samePreds_eq q1 c1 us1 q2 c2 us2 (lvN x) W h1 h2 p1 p2 (fun p hp => by have := lv_bound x p hp; omega) (Nat.le_trans (lv_len x) (by omega))
    have hlm := fun (u : Nv) (w0 W : World) (h0 : NdIn w0 u D) (hb : Below w0.heap.size w0 W) => lv_any D u w0 W h0 hb (by omega)
    have hlx := fun (w0 W : World) (h0 : NdIn w0 v x) (hb : Below w0.heap.size w0 W) => lv_any x v w0 W h0 hb (by omega)
    rw [lD] at hlm
    obtain ⟨dm, hdm'⟩ : ∃ dm, depN D = dm := ⟨_, rfl⟩
    obtain ⟨dx, hdx'⟩ : ∃ dx, depN x = dx := ⟨_, rfl⟩
    rw [hdm'] at hdm dD
    rw [hdx'] at hdx dD
    have dd : (dm : Int) ≤ (dx : Int) := by omega
    simp only [Nv.val] at hdm hdx hcm hlm hlx
    clear hin hX0 hwX hc hD wD cD lD hg hdm' hdx' dD
    go_enter Try.func10, Try.ntmps10
    go_wp2_with (first
      | (go_at_call 35; refine hfx.mono ?_; rintro e w1 ⟨rfl, b1⟩; obtain ⟨s0, s1, s2, s3, s4, s5, s6, s7⟩ := of8' ((b1.block _ hz0).trans (unhide HX0)); have B1 := hide b1; clear b1)
      | (go_at_call 36; refine (hP1 _ ((unhide HIN).keep (unhide B1))).mono ?_; rintro e w2 ⟨⟨um, rfl, hu⟩, b2⟩; simp only [Nv.val]; have B2 := hide (below_sub (unhide B1) b2); clear s0 s1 s2 s3 s4 s5 s6 s7; obtain ⟨s0, s1, s2, s3, s4, s5, s6, s7⟩ := of8' (((unhide B2).block _ hz0).trans (unhide HX0)); have zl : w.heap.size < w2.heap.size := (Nat.lt_of_lt_of_le hz0 (unhide B2).size); have NM := hide hu.toIn; clear hu b2)
      | (go_at_call 38; refine name_worldM ?_; intro Y hY; obtain ⟨yu, bY, sY⟩ := one_nw hY; clear hY; refine (hW _ ((unhide HIN).keep (below_sub (unhide B2) bY))).mono ?_; rintro e w3 ⟨rfl, b3⟩; have B3 := hide (below_sub (below_sub (unhide B2) bY) b3); have NM3 := hide (((unhide NM).keep bY).keep b3); have HM3 := hide ((b3.block _ (heap_lt yu)).trans yu); clear yu b3 bY s0 s1 s2 s3 s4 s5 s6 s7))
    obtain ⟨N3, hN3⟩ : ∃ N3, w2.heap.size = N3 := ⟨_, rfl⟩
    rw [hN3] at HM3
    simp only [hN3]
    clear hN3 zl NM
    have l0 : w.heap.size < w3.heap.size := Nat.lt_of_lt_of_le hz0 (unhide B3).size
    have l3 := heap_lt (unhide HM3)
    have NX3 := hide ((unhide HIN).keep (unhide B3))
    obtain ⟨s0, s1, s2, s3, s4, s5, s6, s7⟩ := of8' (((unhide B3).block _ hz0).trans (unhide HX0))
    obtain ⟨t0, t1, t2, t3, t4, t5, t6, t7⟩ := of8' (unhide HM3)
    have g2 : decide (1 ≤ g) = true := by simp [g1]
    have dd2 : decide ((dm : Int) ≤ (dx : Int)) = true := by simp [dd]
    go_region_held3 (fun w' => w'.cell? ⟨w.heap.size, 0, none⟩ = some (.int .i64 v.kind) ∧ w'.cell? ⟨w.heap.size, 1, none⟩ = some (.string v.attr) ∧ w'.cell? ⟨w.heap.size, 2, none⟩ = some (.slice v.qi v.ni v.ci) ∧ w'.cell? ⟨w.heap.size, 3, none⟩ = some (.slice v.qw v.nw v.cw) ∧ w'.cell? ⟨w.heap.size, 4, none⟩ = some (.int .i64 v.lo) ∧ w'.cell? ⟨w.heap.size, 5, none⟩ = some (.int .i64 v.hi) ∧ w'.cell? ⟨w.heap.size, 6, none⟩ = some (.int .i64 v.op) ∧ w'.cell? ⟨w.heap.size, 7, none⟩ = some (.slice v.qk v.nk v.ck) ∧ w'.cell? ⟨N3, 0, none⟩ = some (.int .i64 um.kind) ∧ w'.cell? ⟨N3, 1, none⟩ = some (.string um.attr) ∧ w'.cell? ⟨N3, 2, none⟩ = some (.slice um.qi um.ni um.ci) ∧ w'.cell? ⟨N3, 3, none⟩ = some (.slice um.qw um.nw um.cw) ∧ w'.cell? ⟨N3, 4, none⟩ = some (.int .i64 um.lo) ∧ w'.cell? ⟨N3, 5, none⟩ = some (.int .i64 um.hi) ∧ w'.cell? ⟨N3, 6, none⟩ = some (.int .i64 um.op) ∧ w'.cell? ⟨N3, 7, none⟩ = some (.slice um.qk um.nk um.ck))
      (first | exact ⟨(R4.cell (by exact l0)).trans s0, (R4.cell (by exact l0)).trans s1, (R4.cell (by exact l0)).trans s2, (R4.cell (by exact l0)).trans s3, (R4.cell (by exact l0)).trans s4, (R4.cell (by exact l0)).trans s5, (R4.cell (by exact l0)).trans s6, (R4.cell (by exact l0)).trans s7, (R4.cell (by exact l3)).trans t0, (R4.cell (by exact l3)).trans t1, (R4.cell (by exact l3)).trans t2, (R4.cell (by exact l3)).trans t3, (R4.cell (by exact l3)).trans t4, (R4.cell (by exact l3)).trans t5, (R4.cell (by exact l3)).trans t6, (R4.cell (by exact l3)).trans t7⟩ | go_keep)
      (first
        | (go_at_call 52; have tst := unhide SL1; clear tst; refine (hlx w3 _ (unhide NX3) R4).mono ?_; rintro e w5 ⟨⟨qb, cb, ub, rfl, ob, pb⟩, b5⟩; have SL2 := hide ob.ls; have PD2 := hide pb; have SL1 := hide ((unhide SL1).below b5); have R4 : Below w3.heap.size w3 w5 := (below_sub R4 b5); clear ob pb b5)
        | (go_at_call 52; refine (hlm um w3 _ (unhide NM3) (Below.refl _ _).drew).mono ?_; rintro e w4 ⟨⟨qa, ca, ua, rfl, oa, pa⟩, b4⟩; have SL1 := hide oa.ls; have PD1 := hide pa; have R4 : Below w3.heap.size w3 w4 := (below_sub (Below.refl _ _).drew b4); clear oa pa b4)
        | (go_at_call 51; refine (hsp qa ca ua qb cb ub _ (unhide SL1) (unhide SL2) ((unhide PD1).keep R4) ((unhide PD2).keep R4)).mono ?_; rintro e w6 ⟨rfl, b6⟩; have R4 : Below w3.heap.size w3 w6 := (below_sub R4 b6); have K51 := hide b6; clear b6)
        | (go_at_call 53; have tst := unhide K51; clear tst K51; refine (hdm um _ ((unhide NM3).keep R4)).mono ?_; rintro e w7 ⟨rfl, b7⟩; have R4 : Below w3.heap.size w3 w7 := (below_sub R4 b7); clear b7)
        | (go_at_call 53; refine (hdx _ ((unhide NX3).keep R4)).mono ?_; rintro e w8 ⟨rfl, b8⟩; have R4 : Below w3.heap.size w3 w8 := (below_sub R4 b8); clear b8)
        | (go_at_call 54; refine (hcm um _ ((unhide NM3).keep R4)).mono ?_; rintro e w9 ⟨rfl, b9⟩; have R4 : Below w3.heap.size w3 w9 := (below_sub R4 b9); clear b9))
    all_goals
      go_wp2
      go_ret
      exact ⟨ret_bool (by simp), below_sub (unhide HWX) (below_sub (unhide B3) R4)⟩
end Go.Proofs.Ytppkjlmdfcifgaa
