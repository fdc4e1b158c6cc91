/- The statement JournalLasts. -/
import Derived.Test.YtfigjfmldpfjkaaGreatL6
import Derived.Test.YtfigjfmldpfjkaaGreatJ8
import Derived.Deep.Cut
import Derived.Deep.CutBlock
namespace Go.Proofs.YtfigjfmldpfjkaaGreat
open Go.RowKit Go.Sort Go.Shelf

def Rows2 (B : Nat → Prop) (q1 q2 : Option Addr) : Nat → Prop := fun i => B i ∨ (∃ p, q1 = some p ∧ p.block = i) ∨ (∃ p, q2 = some p ∧ p.block = i)
section
variable {B : Nat → Prop} {N0 : Nat} {w w' : World} {gj g : Nat} {s s' : JS} {x x' : JX} {q1 q2 : Option Addr} {c1 c2 : Nat} {A C : List Ch}
theorem LM.disk (h : LM B N0 w gj g s x q1 q2 c1 c2 A C) : JAt (Rows2 B q1 q2) w g s ∧ Sub (Rows2 B q1 q2) w := by
  refine ⟨h.jr.disk.more fun i hi => ?_, fun i hi => ?_⟩
  · rcases hi with h1 | ⟨p, hp, rfl⟩ | ⟨p, hp, rfl⟩
    · exact Or.inl (Or.inl h1)
    · obtain ⟨_, cur, hc⟩ := own_cellsG h.o1 hp
      exact Or.inr (Or.inr ⟨cur, 63, hc, by decide, by decide, by decide⟩)
    · obtain ⟨_, cur, hc⟩ := own_cellsG h.o2 hp
      exact Or.inr (Or.inr ⟨cur, 63, hc, by decide, by decide, by decide⟩)
  · rcases hi with h1 | ⟨p, hp, rfl⟩ | ⟨p, hp, rfl⟩
    · exact h.sub i h1
    · exact (h.n0 hp).2
    · exact (h.n1 hp).2
theorem LM.rows (h : LM B N0 w gj g s x q1 q2 c1 c2 A C) (hk : Kpt (Rows2 B q1 q2) w w') : OwnK encC 63 3 N0 w' q1 c1 A ∧ OwnK encC 63 3 N0 w' q2 c2 C :=
  ⟨own_sameG h.o1 fun p hp => hk.block _ (Or.inr (Or.inl ⟨p, hp, rfl⟩)) (h.n0 hp).2, own_sameG h.o2 fun p hp => hk.block _ (Or.inr (Or.inr ⟨p, hp, rfl⟩)) (h.n1 hp).2⟩
theorem side_less (hk : Kpt (Side B q1 q2 gj) w w') : Kpt B w w' := hk.mono fun _ hi => Or.inl hi
end
/-- What stands when the script is through: what holds, and the sizes. -/
structure End (A C : List Ch) (s : JS) : Prop where
  hold : Hold A C s.j
  may : ∀ c ∈ A ++ C, MayB c
  fresh : szO s.f ≤ 16520000020
  acts : s.acts ≤ 1000
  len : A.length + C.length ≤ 4000000
theorem On.end {A C : List Ch} {s : JS} {x : JX} (h : On A C s x) (ha : s.acts ≤ 1000) (hl : A.length + C.length ≤ 4000000) : End A C s := ⟨h.hold, h.may, by rw [h.fresh]; exact Nat.zero_le _, ha, hl⟩
set_option maxRecDepth 100000 in
theorem lasts_long (q0 : Option Addr) (k0 n0 : Nat) (q1 : Option Addr) (k1 n1 : Nat) (q2 : Option Addr) (k2 n2 : Nat) (w : World) (h : 60 < n0 ∨ 10 < n1) :
    Calls Tryz.prog 4 #[.slice q0 n0 k0, .slice q1 n1 k1, .slice q2 n2 k2] w fun e w' => e = .returned (.bool true) ∧ Below w.heap.size w w' := by
  have hfx := fixed_any w
  have hN := fun (W : World) => new_js W
  by_cases h1 : 60 < n0
  · have j1 : (60 : Int) < (n0 : Int) := by omega
    go_enter Tryz.func4, Tryz.ntmps4
    go_wp2_with (first
      | (go_at_call 5; refine hfx.mono ?_; rintro e w1 ⟨rfl, b1⟩; have B1 := hide b1; clear b1)
      | (go_at_call 6; refine (hN w1).mono ?_; rintro e w2 ⟨rfl, d2, b2⟩; have B2 := hide (below_sub (unhide B1) b2); clear d2 b2))
    go_ret
    exact ⟨rfl, unhide B2⟩
  · have j1 : ¬ (60 : Int) < (n0 : Int) := by omega
    have j2 : (10 : Int) < (n1 : Int) := by omega
    go_enter Tryz.func4, Tryz.ntmps4
    go_wp2_with (first
      | (go_at_call 5; refine hfx.mono ?_; rintro e w1 ⟨rfl, b1⟩; have B1 := hide b1; clear b1)
      | (go_at_call 6; refine (hN w1).mono ?_; rintro e w2 ⟨rfl, d2, b2⟩; have B2 := hide (below_sub (unhide B1) b2); clear d2 b2))
    go_ret
    exact ⟨rfl, unhide B2⟩
set_option maxHeartbeats 8000000 in
set_option maxRecDepth 100000 in
theorem lasts_law (q0 : Option Addr) (k0 : Nat) (ops : List Od) (q1 : Option Addr) (k1 : Nat) (cuts : List (Int × Int × Int)) (q2 : Option Addr) (k2 : Nat) (cs : List Int) (w : World) (h0 : OpsOf w q0 k0 ops) (h1 : SlOf encT 3 w q1 k1 cuts) (h2 : SlOf encI 1 w q2 k2 cs) (hw : odsW ops ≤ 4000000) (hc : cs.length ≤ 4000000) (hl : ops.length ≤ 60) (hl1 : cuts.length ≤ 10) :
    Calls Tryz.prog 4 #[.slice q0 ops.length k0, .slice q1 cuts.length k1, .slice q2 cs.length k2] w fun e w' => e = .returned (.bool true) ∧ Below w.heap.size w w' := by
  have mixed : Tryz.prog.follows .mixedOrders = true := by kernel_rfl
  have hfx := fixed_any w
  have hN := fun (W : World) => new_js W
  have hO := fun (B : Nat → Prop) (W : World) (g : Nat) (h1 : JAt B W g newJ) (h2 : Sub B W) => openF1 h1 h2
  have j1 : ¬ (60 : Int) < (ops.length : Int) := by omega
  have j2 : ¬ (10 : Int) < (cuts.length : Int) := by omega
  have j1b : decide ((60 : Int) < (ops.length : Int)) = false := decide_eq_false j1
  have j2b : decide ((10 : Int) < (cuts.length : Int)) = false := decide_eq_false j2
  have H0 := hide h0
  have H1 := hide h1
  have H2 := hide h2
  clear h0 h1 h2
  go_enter Tryz.func4, Tryz.ntmps4
  go_upto_block 0 with (first
    | (go_at_call 5; refine hfx.mono ?_; rintro e w1 ⟨rfl, b1⟩; have B1 := hide b1; clear b1)
    | (go_at_call 6; refine (hN w1).mono ?_; rintro e w2 ⟨rfl, d2, b2⟩; have D2 := hide d2; have U2 : Hid (Sub (· < w1.heap.size) w2) := hide (fun i hi => Nat.lt_of_lt_of_le hi b2.size); have K2 := hide (Kpt.of (B := (· < w1.heap.size)) b2); clear d2 b2)
    | (go_at_call 7; refine (hO _ w2 _ (unhide D2) (unhide U2)).mono ?_; rintro e w3 ⟨⟨gj, q3, c3, rfl, hgj, j3⟩, k3⟩; have J3 := hide j3; have K3 := hide ((unhide K2).trans k3); clear j3 k3))
  obtain ⟨B, hB⟩ : ∃ B : Nat → Prop, B = (· < w1.heap.size) := ⟨_, rfl⟩
  obtain ⟨N0, hN0⟩ : ∃ N0, N0 = w1.heap.size := ⟨_, rfl⟩
  have j3 := unhide J3
  have k3 := unhide K3
  rw [← hB] at j3 k3
  have l3 : LM B N0 w3 gj (w1.heap.size + 1) s1F x1F none none 0 0 [] [] := ⟨j3, by rw [hB]; intro i hi; exact Nat.lt_of_lt_of_le hi k3.size, by rw [hB, hN0]; exact fun i hi => hi, OwnK.nil _ _, OwnK.nil _ _, fun p p' hp => by cases hp⟩
  have on3 : On [] [] s1F x1F := by have h := on_new; rw [head1_len] at h; exact h
  have hbw : ∀ V, Kpt B w1 V → Below w.heap.size w V := fun V hV => (unhide B1).trans (hV.below fun i hi => by have h9 := (unhide B1).size; exact ⟨by rw [hB]; show i < _; omega, by omega⟩)
  have hn0w : ∀ V, Kpt B w1 V → N0 ≤ V.heap.size := fun V hV => by rw [hN0]; exact hV.size
  have hGw : w.heap.size < w1.heap.size + 1 := by have h9 := (unhide B1).size; omega
  have L3 := hide l3
  have ON3 := hide on3
  have K3' := hide k3
  have HBW := hide hbw
  have HN0 := hide hn0w
  have HB := hide hB
  have HGW := hide hGw
  clear j3 k3 l3 on3 hbw hn0w hB hN0 J3 K3 D2 U2 K2 hfx hN hO
  go_cut [11, 12, 13, 14, 16] from 52 to 119 (fun s11 s12 s13 s14 s16 V => ∃ (A C : List Ch) (s : JS) (x : JX) (p1 p2 : Option Addr) (d1 d2 n1 n2 : Nat), s12 = .slice p1 n1 d1 ∧ s13 = .slice p2 n2 d2 ∧ Hid (n1 = A.length ∧ n2 = C.length) ∧ Hid (LM B N0 V gj (w1.heap.size + 1) s x p1 p2 d1 d2 A C) ∧ Hid (End A C s) ∧ Hid (Kpt B w1 V))
  case first =>
    go_wp2_with fail
    go_loopw [11, 12, 13, 14, 16, 52] (fun v11 v12 v13 v14 v16 v52 wr => ∃ (k : Nat) (A C : List Ch) (s : JS) (x : JX) (p1 p2 : Option Addr) (d1 d2 n1 n2 : Nat), k ≤ ops.length ∧ v52 = .int .i64 (k : Int) ∧ v12 = .slice p1 n1 d1 ∧ v13 = .slice p2 n2 d2 ∧ Hid (n1 = A.length ∧ n2 = C.length) ∧ Hid (LM B N0 wr gj (w1.heap.size + 1) s x p1 p2 d1 d2 A C) ∧ Hid (On A C s x ∧ A.length + C.length ≤ chN ops k ∧ s.acts ≤ 3 + 3 * k) ∧ Hid (Kpt B w1 wr)) (fun _ _ _ _ _ v52 _ => ops.length - (intOf v52).toNat)
    case atStart => exact ⟨0, [], [], s1F, x1F, none, none, 0, 0, 0, 0, Nat.zero_le _, rfl, rfl, rfl, hide ⟨rfl, rfl⟩, L3, hide ⟨unhide ON3, Nat.zero_le _, Nat.le_refl _⟩, K3'⟩
    case round =>
      obtain ⟨k, A, C, s, x, p1, p2, d1, d2, n1, n2, hkl, rfl, rfl, rfl, HN, HL, HON, HK⟩ := hrel
      by_cases hlt : k < ops.length
      · obtain ⟨o, ho, _⟩ := get_at hlt
        obtain ⟨b, off, v, hq, hod, z0, z1, z2, z3, z4, z5⟩ := (unhide H0).at ho (unhide HBW wr (unhide HK))
        obtain ⟨⟨e1, e2, e3, e4, e5, e6⟩, sc, si, sb⟩ := hod
        have ki0 : (0 : Int) ≤ (k : Int) := by omega
        have ki1 : (k : Int) < (ops.length : Int) := by omega
        obtain ⟨hon, hlen, hact⟩ := unhide HON
        have hchk : chN ops k + o.cs.length ≤ chN ops (k + 1) := Nat.le_of_eq (chN_snoc ho).symm
        have hch1 := chN_le ops (k + 1)
        have how := odW_mem (List.mem_of_getElem? ho)
        have how2 : o.cs.length ≤ 4000000 := by unfold odW at how; omega
        obtain ⟨Y, hY⟩ : ∃ Y, wr.alloc (.cells #[.int .i64 v.kind, .slice v.pc v.nc v.cc, .int .i64 v.n, .int .i64 v.m, .slice v.pi v.ni v.ci, .slice v.pb v.nb v.cb] 42) = Y := ⟨_, rfl⟩
        have bY : Below wr.heap.size wr Y := by rw [← hY]; exact (Below.refl _ _).alloc (Nat.le_refl _) _
        have kY : Y.heap[wr.heap.size]? = some (.cells #[.int .i64 v.kind, .slice v.pc v.nc v.cc, .int .i64 v.n, .int .i64 v.m, .slice v.pi v.ni v.ci, .slice v.pb v.nb v.cb] 42 (0, 0)) := by rw [← hY]; exact heap_alloc_new _ _
        have zY : wr.heap.size < Y.heap.size := (Array.getElem?_eq_some_iff.1 kY).1
        have lY := (unhide HL).below bY
        obtain ⟨jS, uS⟩ := lY.side kY
        obtain ⟨S, hS⟩ : ∃ S, S = Side B p1 p2 wr.heap.size := ⟨_, rfl⟩
        rw [← hS] at jS uS
        have hKY : Kpt B w1 Y := (unhide HK).trans (Kpt.of bY)
        have hScall : ∀ W (s' : JS) (x' : JX), JrAt S W gj (w1.heap.size + 1) s' x' → Kpt S Y W → LM B N0 W gj (w1.heap.size + 1) s' x' p1 p2 d1 d2 A C ∧ Kpt B w1 W := fun W s' x' h8 h9 => by
          rw [hS] at h8 h9
          exact ⟨lY.call h8 h9, hKY.trans (side_less h9)⟩
        have hcl : ∀ W, Kpt S Y W → W.cell? ⟨wr.heap.size, 0, none⟩ = some (.int .i64 v.kind) ∧ W.cell? ⟨wr.heap.size, 1, none⟩ = some (.slice v.pc v.nc v.cc) ∧ W.cell? ⟨wr.heap.size, 2, none⟩ = some (.int .i64 v.n) ∧ W.cell? ⟨wr.heap.size, 3, none⟩ = some (.int .i64 v.m) := fun W hW => by
          have h9 := (hW.block _ (by rw [hS]; exact Or.inr (Or.inr (Or.inr rfl))) zY).trans kY
          exact ⟨cell_of_block h9 0, cell_of_block h9 1, cell_of_block h9 2, cell_of_block h9 3⟩
        have hsl : ∀ W, Kpt B w1 W → SlOf encC 3 W v.pc v.cc o.cs := fun W hW => sc.below (unhide HBW W hW)
        obtain ⟨y0, y1, y2, y3⟩ := hcl Y (Kpt.refl _ _)
        have hfit := hon.fits (by omega)
        have hn1b : n1 ≤ 4000000 := by have := (unhide HN).1; omega
        have hn2b : n2 ≤ 4000000 := by have := (unhide HN).2; omega
        have hncb : v.nc ≤ 4000000 := by omega
        have hoff : ∀ (W : World) (s' : JS) (x' : JX), JrAt B W gj (w1.heap.size + 1) s' x' → Calls Tryz.prog 14 #[.pointer (some ⟨w1.heap.size + 1, 0, none⟩)] W fun e w' => e = .returned (.bool s'.off) ∧ w' = W := fun W s' x' h9 => offJ_any h9.disk
        have hszj : szO s.j ≤ 16520000020 := hold_size hon.may hon.hold (by omega)
        have SC := hide hScall
        have CL := hide hcl
        have SL := hide hsl
        have JS' := hide jS
        have US := hide uS
        have LY := hide lY
        have KY := hide hKY
        have E4 := hide e4
        have HO := hide ho
        subst hq
        clear ho e1 e2 e3 e4 e5 e6 si sb sc bY kY zY lY jS uS hS hKY hScall hcl hsl
        by_cases hk4 : v.kind = 4
        · have b4 : (v.kind == 4) = true := beq_iff_eq.2 hk4
          have harm : ∀ (W : World) (n p : Int), JrAt S W gj (w1.heap.size + 1) s x → Sub S W → n ≤ 9223372036854775807 → Calls Tryz.prog 10 #[.pointer (some ⟨w1.heap.size + 1, 0, none⟩), .int .i64 n, .int .i64 p] W fun e w' => e = .returned (.int .i64 0) ∧ (∃ s1 : JS, (On A C s1 x ∧ s1.acts = s.acts) ∧ JrAt S w' gj (w1.heap.size + 1) s1 x) ∧ Kpt S W w' := fun W n p h1 h2 h3 => (armJ_any h1.disk (h2.plus h1.lt) n p h3 hon.off).mono (by rintro e w' ⟨h4, h5, h6⟩; exact ⟨h4, ⟨_, ⟨on_arm hon (max n 0).toNat p, rfl⟩, ⟨BoxJ.kept h1.box h6, h1.nb, h5⟩⟩, PlusB.less h6⟩)
          clear hk4 hfit hszj
          go_wp2
          go_region_held3 (fun W => (W.cell? ⟨wr.heap.size, 2, none⟩ = some (.int .i64 v.n) ∧ W.cell? ⟨wr.heap.size, 3, none⟩ = some (.int .i64 v.m)))
            (first | exact (unhide CL _ (unhide K4)).2.2 | exact (unhide CL _ ((unhide K4).trans (Kpt.of (Below.refl _ _).drew))).2.2 | exact (unhide CL _ (Kpt.refl _ _)).2.2 | exact (unhide CL _ (Kpt.of (Below.refl _ _).drew)).2.2)
            ((go_at_call 10; (first | refine (harm Y _ v.m (unhide JS') (unhide US) (wrap_le _)).mono ?_ | refine (harm Y.drew _ v.m ((unhide JS').below (Below.refl _ _).drew) (unhide US) (wrap_le _)).mono ?_); rintro e w4 ⟨rfl, ⟨s1, ⟨on1, ac1⟩, j4⟩, k4⟩; have K4 : Hid (Kpt S Y w4) := hide (by first | exact k4 | exact (Kpt.of (Below.refl _ _).drew).trans k4); have L4 := hide (unhide SC w4 s1 x j4 (unhide K4)).1; have KK4 := hide (unhide SC w4 s1 x j4 (unhide K4)).2; have ON4 := hide on1; have AC4 := hide ac1; clear on1 ac1 j4 k4))
          have hof := hoff w4 s1 x (unhide L4).jr
          rw [(unhide ON4).off] at hof
          go_wp2_with (go_at_call 14; refine hof.mono ?_; rintro e wo ⟨rfl, hwo⟩; obtain rfl := hwo.symm)
          go_roundw
          case rel => exact ⟨k + 1, A, C, s1, x, p1, p2, d1, d2, n1, n2, by omega, by go_num, rfl, rfl, HN, L4, hide ⟨unhide ON4, by omega, by have := unhide AC4; omega⟩, KK4⟩
          case measure => simp [intOf]; omega
        have b4 : (v.kind == 4) = false := beq_eq_false_iff_ne.2 hk4
        by_cases hk1 : v.kind = 1
        · have b1 : (v.kind == 1) = true := beq_iff_eq.2 hk1
          have hap := japp_any (unhide JS') v.pc v.cc o.cs (unhide US) (by omega) (unhide SL Y (unhide KY)) (by omega) hfit (by omega)
          rw [← unhide E4] at hap
          clear hk4 hk1 hfit
          rcases on_app (cs := o.cs) hon with ⟨r1, r2⟩ | ⟨r1, r2, r3⟩ | ⟨r1, r2, r3, r4, r5, r6⟩
          · rw [r1, r2] at hap
            have hof : ∀ W, JrAt B W gj (w1.heap.size + 1) s x → Calls Tryz.prog 14 #[.pointer (some ⟨w1.heap.size + 1, 0, none⟩)] W fun e w' => e = .returned (.bool false) ∧ w' = W := fun W h9 => by have h8 := hoff W s x h9; rw [hon.off] at h8; exact h8
            clear r1 r2
            go_wp2_with (first
              | (go_at_call 11; refine hap.mono ?_; rintro e w4 ⟨rfl, j4, k4⟩; have L4 := hide (unhide SC w4 s x j4 k4).1; have KK4 := hide (unhide SC w4 s x j4 k4).2; clear j4 k4)
              | (go_at_call 14; refine (hof w4 (unhide L4).jr).mono ?_; rintro e wo ⟨rfl, hwo⟩; obtain rfl := hwo.symm))
            go_roundw
            case rel => exact ⟨k + 1, A, C, s, x, p1, p2, d1, d2, n1, n2, by omega, by go_num, rfl, rfl, HN, L4, hide ⟨hon, by omega, by omega⟩, KK4⟩
            case measure => simp [intOf]; omega
          · rw [r1] at hap
            generalize (jApp s x o.cs).2.1 = s' at *
            generalize (jApp s x o.cs).2.2 = x' at *
            have hof : ∀ W, JrAt B W gj (w1.heap.size + 1) s' x' → Calls Tryz.prog 14 #[.pointer (some ⟨w1.heap.size + 1, 0, none⟩)] W fun e w' => e = .returned (.bool false) ∧ w' = W := fun W h9 => by have h8 := hoff W s' x' h9; rw [r2.off] at h8; exact h8
            obtain ⟨NS, hNS⟩ : ∃ NS, n2 + v.nc = NS := ⟨_, rfl⟩
            have NSE : Hid ((C ++ o.cs).length = NS) := hide (by rw [List.length_append, ← hNS, (unhide HN).2, unhide E4])
            have NSH := hide hNS
            have hNSb : NS ≤ 8000000 := by omega
            clear r1 hNS
            go_wp2_with (first
              | (go_at_call 11; refine hap.mono ?_; rintro e w4 ⟨rfl, j4, k4⟩; have L4 := hide (unhide SC w4 s' x' j4 k4).1; have KK4 := hide (unhide SC w4 s' x' j4 k4).2; obtain ⟨t0, t1, t2, t3⟩ := unhide CL w4 k4; clear j4 k4)
              | (at_builtin; refine wpList_appC rfl _ _ rfl N0 p2 d2 C v.pc v.cc o.cs n2 v.nc NS (unhide HN).2.symm (unhide E4).symm (unhide NSH) rfl rfl (unhide L4).o2 (unhide SL w4 (unhide KK4)).src (by unfold maxLen; omega) (by omega) (unhide HN0 w4 (unhide KK4)) ?_; intro q5 c5 w5 o5 g5 hat5; have L5 := hide ((unhide L4).grow2 o5 g5 hat5); have K5 := hide ((unhide KK4).trans (kpt_row g5 (unhide L4).base fun p hp => ((unhide L4).n1 hp).1)); clear o5 g5 hat5)
              | (go_at_call 14; refine (hof w5 (unhide L5).jr).mono ?_; rintro e wo ⟨rfl, hwo⟩; obtain rfl := hwo.symm))
            go_roundw
            case rel => exact ⟨k + 1, A, C ++ o.cs, s', x', p1, q5, d1, c5, n1, NS, by omega, by go_num, rfl, rfl, hide ⟨(unhide HN).1, (unhide NSE).symm⟩, L5, hide ⟨r2, by rw [List.length_append]; omega, by omega⟩, K5⟩
            case measure => simp [intOf]; omega
          · rw [r1] at hap
            generalize (jApp s x o.cs).2.1 = s' at *
            generalize (jApp s x o.cs).2.2 = x' at *
            have hof : ∀ W, JrAt B W gj (w1.heap.size + 1) s' x' → Calls Tryz.prog 14 #[.pointer (some ⟨w1.heap.size + 1, 0, none⟩)] W fun e w' => e = .returned (.bool true) ∧ w' = W := fun W h9 => by have h8 := hoff W s' x' h9; rw [r3] at h8; exact h8
            obtain ⟨NS, hNS⟩ : ∃ NS, n2 + v.nc = NS := ⟨_, rfl⟩
            have NSE : Hid ((C ++ o.cs).length = NS) := hide (by rw [List.length_append, ← hNS, (unhide HN).2, unhide E4])
            have NSH := hide hNS
            have hNSb : NS ≤ 8000000 := by omega
            clear r1 hNS
            go_wp2_with (first
              | (go_at_call 11; refine hap.mono ?_; rintro e w4 ⟨rfl, j4, k4⟩; have L4 := hide (unhide SC w4 s' x' j4 k4).1; have KK4 := hide (unhide SC w4 s' x' j4 k4).2; obtain ⟨t0, t1, t2, t3⟩ := unhide CL w4 k4; clear j4 k4)
              | (at_builtin; refine wpList_appC rfl _ _ rfl N0 p2 d2 C v.pc v.cc o.cs n2 v.nc NS (unhide HN).2.symm (unhide E4).symm (unhide NSH) rfl rfl (unhide L4).o2 (unhide SL w4 (unhide KK4)).src (by unfold maxLen; omega) (by omega) (unhide HN0 w4 (unhide KK4)) ?_; intro q5 c5 w5 o5 g5 hat5; have L5 := hide ((unhide L4).grow2 o5 g5 hat5); have K5 := hide ((unhide KK4).trans (kpt_row g5 (unhide L4).base fun p hp => ((unhide L4).n1 hp).1)); clear o5 g5 hat5)
              | (go_at_call 14; refine (hof w5 (unhide L5).jr).mono ?_; rintro e wo ⟨rfl, hwo⟩; obtain rfl := hwo.symm))
            go_meet
            exact ⟨A, C ++ o.cs, s', x', p1, q5, d1, c5, n1, NS, rfl, rfl, hide ⟨(unhide HN).1, (unhide NSE).symm⟩, L5, hide ⟨r4, may_app hon.may r2, by rw [r5]; exact Nat.zero_le _, by omega, by rw [List.length_append]; omega⟩, K5⟩
        have b1 : (v.kind == 1) = false := beq_eq_false_iff_ne.2 hk1
        by_cases hk2 : v.kind = 2
        · have b2 : (v.kind == 2) = true := beq_iff_eq.2 hk2
          have hsy := jsyn_any (unhide JS') (unhide US) (by omega)
          clear hk4 hk1 hk2 hfit
          rcases on_syn hon with ⟨r1, r2, r3⟩ | ⟨r1, r2, r3, r4, r5⟩
          · rw [r1] at hsy
            generalize (jSyn s x).2.1 = s' at *
            generalize (jSyn s x).2.2 = x' at *
            have hof : ∀ W, JrAt B W gj (w1.heap.size + 1) s' x' → Calls Tryz.prog 14 #[.pointer (some ⟨w1.heap.size + 1, 0, none⟩)] W fun e w' => e = .returned (.bool false) ∧ w' = W := fun W h9 => by have h8 := hoff W s' x' h9; rw [r2.off] at h8; exact h8
            obtain ⟨NS, hNS⟩ : ∃ NS, n1 + n2 = NS := ⟨_, rfl⟩
            have NSE : Hid (NS = (A ++ C).length) := hide (by rw [List.length_append, ← hNS, ← (unhide HN).1, ← (unhide HN).2])
            have NSH := hide hNS
            have hNSb : NS ≤ 8000000 := by omega
            have hR2 := hide r2
            have hR3 := hide r3
            clear r1 r2 r3 hNS
            go_wp2_with (first
              | (go_at_call 12; refine hsy.mono ?_; rintro e w4 ⟨rfl, j4, k4⟩; have L4 := hide (unhide SC w4 s' x' j4 k4).1; have KK4 := hide (unhide SC w4 s' x' j4 k4).2; clear j4 k4)
              | (at_builtin; refine wpList_appC rfl _ _ rfl N0 p1 d1 A p2 d2 C n1 n2 NS (unhide HN).1.symm (unhide HN).2.symm (unhide NSH) rfl rfl (unhide L4).o1 (unhide L4).o2.ls.src (by unfold maxLen; omega) (by omega) (unhide HN0 w4 (unhide KK4)) ?_; intro q5 c5 w5 o5 g5 hat5; have L5 := hide ((unhide L4).grow1 o5 g5); have K5 := hide ((unhide KK4).trans (kpt_row g5 (unhide L4).base fun p hp => ((unhide L4).n0 hp).1)); clear o5 g5 hat5)
              | (go_at_call 14; refine (hof w5 (unhide L5).jr).mono ?_; rintro e wo ⟨rfl, hwo⟩; obtain rfl := hwo.symm))
            go_roundw
            case rel => exact ⟨k + 1, A ++ C, [], s', x', q5, none, c5, 0, NS, 0, by omega, by go_num, rfl, rfl, hide ⟨unhide NSE, rfl⟩, L5, hide ⟨unhide hR2, by rw [List.length_append]; simp only [List.length_nil]; omega, by have := unhide hR3; omega⟩, K5⟩
            case measure => simp [intOf]; omega
          · rw [r1] at hsy
            generalize (jSyn s x).2.1 = s' at *
            generalize (jSyn s x).2.2 = x' at *
            have hof : ∀ W, JrAt B W gj (w1.heap.size + 1) s' x' → Calls Tryz.prog 14 #[.pointer (some ⟨w1.heap.size + 1, 0, none⟩)] W fun e w' => e = .returned (.bool true) ∧ w' = W := fun W h9 => by have h8 := hoff W s' x' h9; rw [r2] at h8; exact h8
            clear r1
            go_wp2_with (first
              | (go_at_call 12; refine hsy.mono ?_; rintro e w4 ⟨rfl, j4, k4⟩; have L4 := hide (unhide SC w4 s' x' j4 k4).1; have KK4 := hide (unhide SC w4 s' x' j4 k4).2; clear j4 k4)
              | (go_at_call 14; refine (hof w4 (unhide L4).jr).mono ?_; rintro e wo ⟨rfl, hwo⟩; obtain rfl := hwo.symm))
            go_meet
            exact ⟨A, C, s', x', p1, p2, d1, d2, n1, n2, rfl, rfl, HN, L4, hide ⟨r3, hon.may, by rw [r4]; exact Nat.zero_le _, by omega, by omega⟩, KK4⟩
        have b2 : (v.kind == 2) = false := beq_eq_false_iff_ne.2 hk2
        by_cases hk3 : v.kind = 3
        · have b3 : (v.kind == 3) = true := beq_iff_eq.2 hk3
          have hsf : szO s.f = 0 := by rw [hon.fresh]; rfl
          have hre := jrew_any (unhide JS') v.n v.pc v.cc o.cs (unhide US) (by omega) (unhide SL Y (unhide KY)) (by omega) (by omega)
          rw [← unhide E4] at hre
          clear hk4 hk1 hk2 hk3 hfit
          rcases on_rew hon v.n o.cs with ⟨r1, r2⟩ | ⟨r1, r2, r3⟩ | ⟨r1, r2, r3, r4, r5⟩
          · have hof : ∀ W, JrAt B W gj (w1.heap.size + 1) s x → Calls Tryz.prog 14 #[.pointer (some ⟨w1.heap.size + 1, 0, none⟩)] W fun e w' => e = .returned (.bool false) ∧ w' = W := fun W h9 => by have h8 := hoff W s x h9; rw [hon.off] at h8; exact h8
            rw [r2] at hre
            rcases r1 with r1 | r1 <;> rw [r1] at hre
            all_goals
              clear r1 r2
              go_wp2_with (first
                | (go_at_call 13; refine hre.mono ?_; rintro e w4 ⟨rfl, j4, k4⟩; have L4 := hide (unhide SC w4 s x j4 k4).1; have KK4 := hide (unhide SC w4 s x j4 k4).2; clear j4 k4)
                | (go_at_call 14; refine (hof w4 (unhide L4).jr).mono ?_; rintro e wo ⟨rfl, hwo⟩; obtain rfl := hwo.symm))
              go_roundw
              case rel => exact ⟨k + 1, A, C, s, x, p1, p2, d1, d2, n1, n2, by omega, by go_num, rfl, rfl, HN, L4, hide ⟨hon, by omega, by omega⟩, KK4⟩
              case measure => simp [intOf]; omega
          · rw [r1] at hre
            generalize (jRew s x v.n o.cs).2.1 = s' at *
            generalize (jRew s x v.n o.cs).2.2 = x' at *
            have hof : ∀ W, JrAt B W gj (w1.heap.size + 1) s' x' → Calls Tryz.prog 14 #[.pointer (some ⟨w1.heap.size + 1, 0, none⟩)] W fun e w' => e = .returned (.bool false) ∧ w' = W := fun W h9 => by have h8 := hoff W s' x' h9; rw [r2.off] at h8; exact h8
            have hR2 := hide r2
            have hR3 := hide r3
            clear r1 r2 r3
            go_wp2_with (first
              | (go_at_call 13; refine hre.mono ?_; rintro e w4 ⟨rfl, j4, k4⟩; have L4 := hide (unhide SC w4 s' x' j4 k4).1; have KK4 := hide (unhide SC w4 s' x' j4 k4).2; obtain ⟨W4, hW4⟩ : ∃ W4, w4.alloc (.cells #[] 63) = W4 := ⟨_, rfl⟩; have bW4 : Below w4.heap.size w4 W4 := (by rw [← hW4]; exact (Below.refl _ _).alloc (Nat.le_refl _) _); obtain ⟨t0, t1, t2, t3⟩ := unhide CL w4 k4; obtain ⟨y0', y1', y2', y3'⟩ := unhide CL W4 (k4.trans (Kpt.of bW4)); have OM4 : Hid (OwnK encC 63 3 w4.heap.size W4 (some ⟨w4.heap.size, 0, none⟩) 0 []) := hide (by rw [← hW4]; exact OwnK.made _ _ (Nat.le_refl _)); have BW4 := hide bW4; clear j4 k4 bW4)
              | (at_builtin; refine wpList_app rowC rfl _ _ rfl w4.heap.size (some ⟨w4.heap.size, 0, none⟩) 0 [] v.pc v.cc o.cs 0 v.nc v.nc rfl (unhide E4).symm (Nat.zero_add _) rfl rfl (unhide OM4) ((unhide SL w4 (unhide KK4)).below (unhide BW4)).src (by unfold maxLen; omega) (by omega) (unhide BW4).size ?_; intro q5 c5 w5 o5 b5 _ _; have b5' := (unhide BW4).trans b5; have L5 := hide ((unhide L4).new1 b5' (by simpa using o5) (unhide HN0 w4 (unhide KK4))); have K5 := hide ((unhide KK4).trans (Kpt.of b5')); clear o5 b5 b5')
              | (go_at_call 14; refine (hof w5 (unhide L5).jr).mono ?_; rintro e wo ⟨rfl, hwo⟩; obtain rfl := hwo.symm))
            go_roundw
            case rel => exact ⟨k + 1, o.cs, [], s', x', q5, none, c5, 0, v.nc, 0, by omega, by go_num, rfl, rfl, hide ⟨unhide E4, rfl⟩, L5, hide ⟨unhide hR2, by simp only [List.length_nil]; omega, by have := unhide hR3; omega⟩, K5⟩
            case measure => simp [intOf]; omega
          · rw [r1] at hre
            generalize (jRew s x v.n o.cs).2.1 = s' at *
            generalize (jRew s x v.n o.cs).2.2 = x' at *
            have hof : ∀ W, JrAt B W gj (w1.heap.size + 1) s' x' → Calls Tryz.prog 14 #[.pointer (some ⟨w1.heap.size + 1, 0, none⟩)] W fun e w' => e = .returned (.bool true) ∧ w' = W := fun W h9 => by have h8 := hoff W s' x' h9; rw [r2] at h8; exact h8
            clear r1
            go_wp2_with (first
              | (go_at_call 13; refine hre.mono ?_; rintro e w4 ⟨rfl, j4, k4⟩; have L4 := hide (unhide SC w4 s' x' j4 k4).1; have KK4 := hide (unhide SC w4 s' x' j4 k4).2; obtain ⟨W4, hW4⟩ : ∃ W4, w4.alloc (.cells #[] 63) = W4 := ⟨_, rfl⟩; have bW4 : Below w4.heap.size w4 W4 := (by rw [← hW4]; exact (Below.refl _ _).alloc (Nat.le_refl _) _); obtain ⟨t0, t1, t2, t3⟩ := unhide CL w4 k4; obtain ⟨y0', y1', y2', y3'⟩ := unhide CL W4 (k4.trans (Kpt.of bW4)); have OM4 : Hid (OwnK encC 63 3 w4.heap.size W4 (some ⟨w4.heap.size, 0, none⟩) 0 []) := hide (by rw [← hW4]; exact OwnK.made _ _ (Nat.le_refl _)); have BW4 := hide bW4; clear j4 k4 bW4)
              | (at_builtin; refine wpList_app rowC rfl _ _ rfl w4.heap.size (some ⟨w4.heap.size, 0, none⟩) 0 [] v.pc v.cc o.cs 0 v.nc v.nc rfl (unhide E4).symm (Nat.zero_add _) rfl rfl (unhide OM4) ((unhide SL w4 (unhide KK4)).below (unhide BW4)).src (by unfold maxLen; omega) (by omega) (unhide BW4).size ?_; intro q5 c5 w5 o5 b5 _ _; have b5' := (unhide BW4).trans b5; have L5 := hide ((unhide L4).below b5'); have K5 := hide ((unhide KK4).trans (Kpt.of b5')); clear o5 b5 b5')
              | (go_at_call 14; refine (hof w5 (unhide L5).jr).mono ?_; rintro e wo ⟨rfl, hwo⟩; obtain rfl := hwo.symm))
            go_meet
            exact ⟨A, C, s', x', p1, p2, d1, d2, n1, n2, rfl, rfl, HN, L5, hide ⟨r3, hon.may, by omega, by omega, by omega⟩, K5⟩
        · have b3 : (v.kind == 3) = false := beq_eq_false_iff_ne.2 hk3
          have hof : ∀ W, JrAt B W gj (w1.heap.size + 1) s x → Calls Tryz.prog 14 #[.pointer (some ⟨w1.heap.size + 1, 0, none⟩)] W fun e w' => e = .returned (.bool false) ∧ w' = W := fun W h9 => by have h8 := hoff W s x h9; rw [hon.off] at h8; exact h8
          clear hk4 hk1 hk2 hk3 hfit
          go_wp2_with (go_at_call 14; refine (hof Y (unhide LY).jr).mono ?_; rintro e wo ⟨rfl, hwo⟩; obtain rfl := hwo.symm)
          go_roundw
          case rel => exact ⟨k + 1, A, C, s, x, p1, p2, d1, d2, n1, n2, by omega, by go_num, rfl, rfl, HN, LY, hide ⟨hon, by omega, by omega⟩, KY⟩
          case measure => simp [intOf]; omega
      · obtain rfl : k = ops.length := by omega
        have ki1 : ¬ (ops.length : Int) < (ops.length : Int) := by omega
        obtain ⟨hon, hlen, hact⟩ := unhide HON
        have hch := chN_le ops ops.length
        go_wp2_with fail
        go_meet
        exact ⟨A, C, s, x, p1, p2, d1, d2, n1, n2, rfl, rfl, HN, HL, hide (hon.end (by omega) (by omega)), HK⟩
  case rest =>
    obtain ⟨A, C, s, x, p1, p2, d1, d2, n1, n2, rfl, rfl, HN, HL, HE, HK⟩ := hcut
    have hE := unhide HE
    have hL := unhide HL
    obtain ⟨jd, ud⟩ := hL.disk
    have hbw := unhide HBW wc (unhide HK)
    have hlen := hE.len
    have hz : 20 + (A.length + C.length) * 4130 ≤ 16520000020 := by omega
    have hsj := hold_size hE.may hE.hold hz
    have hsf := hE.fresh
    have hac := hE.acts
    have hcr := crashJ_any jd ud (by omega) (by omega) (by omega) q2 k2 cs ((unhide H2).below hbw) (by omega) (fun h9 b off hq => by obtain ⟨b', off', hq', hb', _⟩ := (unhide H2).2.2.2 h9; rw [hq] at hq'; cases hq'; have := unhide HGW; omega)
    have hfo : ∀ (gf : Nat) (W : World), JAt (· < wc.heap.size) W gf (crashM s cs) → Sub (· < wc.heap.size) W → SlOf encT 3 W q1 k1 cuts → Calls Tryz.prog 16 #[.pointer (some ⟨gf, 0, none⟩), .slice q1 cuts.length k1] W fun e w' => (∃ q' c' k L, e = .returned (.tuple #[.slice q' L c', .bool true]) ∧ L = (A ++ C.take k).length ∧ OwnK encC 63 3 W.heap.size w' q' c' (A ++ C.take k)) ∧ Kpt (· < wc.heap.size) W w' := fun gf W h7 h8 h9 => (found_js h7 h8 (back_crash hE.hold hsf cs) hE.may hz (by omega) q1 k1 cuts h9 hl1 (fun h0 p hp => by obtain ⟨b', off', hq', hb', _⟩ := (unhide H1).2.2.2 h0; rw [hp] at hq'; cases hq'; have := hbw.size; show b' < _; omega)).mono (by rintro e w' ⟨⟨q', c', k, h1, h2⟩, h3⟩; exact ⟨⟨q', c', k, _, h1, rfl, h2⟩, h3⟩)
    have hbe : ∀ (k L : Nat) (q : Option Addr) (c : Nat) (W : World), L = (A ++ C.take k).length → SlOf encC 3 W q c (A ++ C.take k) → SlOf encC 3 W p1 d1 A → SlOf encC 3 W p2 d2 C → Calls Tryz.prog 17 #[.slice q L c, .slice p1 n1 d1, .slice p2 n2 d2] W fun e w' => e = .returned (.bool true) ∧ Below W.heap.size W w' := fun k L q c W h6 h7 h8 h9 => by
      have h := begins_yes A C k q p1 p2 c d1 d2 W h7 h8 h9 (by omega)
      rw [← (unhide HN).1, ← (unhide HN).2, ← h6] at h
      exact h
    have HBw := hide hbw
    clear hE hL jd ud hbw hlen hz hsj hsf hac
    go_wp2_with (first
      | (go_at_call 15; refine hcr.mono ?_; rintro e w5 ⟨⟨gf, rfl, d5⟩, _, k5⟩; obtain ⟨r1, r2⟩ := (unhide HL).rows k5; have D5 := hide d5; have R1 := hide r1; have R2 := hide r2; have U5 : Hid (Sub (· < wc.heap.size) w5) := hide (fun i hi => Nat.lt_of_lt_of_le hi k5.size); have Z5 := hide k5.size; have K5 := hide ((unhide HK).trans (k5.mono fun i hi => Or.inl hi)); have S5 := hide ((unhide H1).below (unhide HBW w5 (unhide K5))); have P1 : Hid (∀ p, p1 = some p → p.block < wc.heap.size) := hide (fun p hp => ((unhide HL).n0 hp).2); have P2 : Hid (∀ p, p2 = some p → p.block < wc.heap.size) := hide (fun p hp => ((unhide HL).n1 hp).2); clear d5 k5 r1 r2)
      | (go_at_call 16; refine (hfo gf w5 (unhide D5) (unhide U5) (unhide S5)).mono ?_; rintro e w6 ⟨⟨q6, c6, kk, L6, rfl, l6, o6⟩, k6⟩; have O6 := hide o6; have L6' := hide l6; have T1 := hide (own_sameG (unhide R1) (fun p hp => k6.block p.block (unhide P1 p hp) (Nat.lt_of_lt_of_le (unhide P1 p hp) (unhide Z5)))); have T2 := hide (own_sameG (unhide R2) (fun p hp => k6.block p.block (unhide P2 p hp) (Nat.lt_of_lt_of_le (unhide P2 p hp) (unhide Z5)))); have K6 := hide ((unhide K5).trans (k6.mono fun i hi => by have h8 := (unhide HL).sub i hi; exact h8)); clear o6 l6 k6)
      | (go_at_call 17; refine (hbe kk L6 q6 c6 w6 (unhide L6') (unhide O6).ls (unhide T1).ls (unhide T2).ls).mono ?_; rintro e w7 ⟨rfl, b7⟩; have K7 := hide ((unhide K6).trans (Kpt.of b7)); clear b7))
    go_ret
    exact ⟨rfl, unhide HBW w7 (unhide K7)⟩
end Go.Proofs.YtfigjfmldpfjkaaGreat
